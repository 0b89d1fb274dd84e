/- The walk of ReadJoins. -/
import Derived.Test.YthpmnomplhhfgaaGreatDoorLawBk5
import Derived.Test.YthpmnomplhhfgaaGreatDoorSxPos
namespace Go.Proofs.YthpmnomplhhfgaaGreatDoor
open Go.RowKit

theorem wrap_in5 {x : Int} (h1 : -9223372036854775808 ≤ x) (h2 : x ≤ 9223372036854775807) : IntKind.i64.wrap x = x := by
  rw [IntKind.wrap_i64]
  omega
theorem zP_map (g : Nat → Nat) : ∀ n : Nat, (∀ x : Nd, cntN x ≤ n → mapN zP (mapN g x) = mapN zP x) ∧ (∀ l : List Nd, cntL l ≤ n → mapL zP (mapL g l) = mapL zP l)
  | 0 => by
    refine ⟨fun x h => absurd h (by have := cntN_pos x; omega), fun l h => ?_⟩
    have hl : l = [] := List.eq_nil_of_length_eq_zero (by have := cntL_len l; omega)
    subst hl
    rw [mapL_nil]
  | n + 1 => by
    obtain ⟨_, ihL⟩ := zP_map g n
    have hN : ∀ x : Nd, cntN x ≤ n + 1 → mapN zP (mapN g x) = mapN zP x := by
      intro x hx
      obtain ⟨k, p, i, s, l⟩ := x
      rw [cntN_mk] at hx
      rw [mapN_mk, mapN_mk, mapN_mk, ihL l (by omega)]
      rfl
    refine ⟨hN, fun l => ?_⟩
    induction l with
    | nil => intro _; rw [mapL_nil]
    | cons x r ih =>
      intro hc
      rw [cntL_cons] at hc
      have hp := cntN_pos x
      rw [mapL_cons, mapL_cons, mapL_cons, hN x (by omega), ih (by omega)]
theorem sim_map (g : Nat → Nat) (x : Nd) : simN (mapN g x) x := (zP_map g (cntN x)).1 x (Nat.le_refl _)

set_option maxHeartbeats 16000000 in
set_option maxRecDepth 20000 in
theorem joins5_walk (ao : Option Addr) (n cap : Nat) (l : List UInt8) (ao' : Option Addr) (n' cap' : Nat) (l' : List UInt8) (w : World) (hl : l.length = n) (h : IsB w ao l) (hc : n ≤ cap) (hl' : l'.length = n') (h' : IsB w ao' l') (hc' : n' ≤ cap') (h4 : Lib4 w) :
    Calls Tryz.prog 7 #[.slice ao n cap, .slice ao' n' cap'] w fun e w' => e = .returned (.bool true) ∧ Below w.heap.size w w' := by
  have H4 : Hid (Lib4 w) := h4
  have HI : Hid (IsB w ao l) := h
  have HL : Hid (l.length = n) := hl
  have HI' : Hid (IsB w ao' l') := h'
  have HL' : Hid (l'.length = n') := hl'
  clear h hl h4 h' hl'
  go_enter Tryz.func7, Tryz.ntmps7
  go_wp2_with fail
  refine (known5 w H4.out).mono ?_
  rintro e w1 ⟨rfl, hb1⟩
  have HB1 : Hid (Below w.heap.size w w1) := hb1
  clear hb1
  by_cases hn : 1000 < n
  · have hni : (1000 : Int) < (n : Int) := by omega
    go_wp2
    go_ret
    exact ⟨rfl, HB1.out⟩
  have hni : ¬ (1000 : Int) < (n : Int) := by omega
  by_cases hn' : 1000 < n'
  · have hni' : (1000 : Int) < (n' : Int) := by omega
    go_wp2
    go_ret
    exact ⟨rfl, HB1.out⟩
  have hni' : ¬ (1000 : Int) < (n' : Int) := by omega
  obtain ⟨R, HR⟩ : ∃ R, Hid (readQ l = R) := ⟨_, rfl⟩
  obtain ⟨R', HR'⟩ : ∃ R', Hid (readQ l' = R') := ⟨_, rfl⟩
  -- the two readings, whatever they tell
  have HS1 : Hid (Calls Tryz.prog 11 #[.slice ao n cap] w1 fun e w' => (∃ a1 m1 c1 a2 m2 c2, e = .returned (.tuple #[.slice a1 m1 c1, .agg #[.slice a2 m2 c2, .int .i64 R.e]]) ∧ (R.e = 0 → m1 = R.l.length ∧ IsNds w' anyB a1 R.l)) ∧ Below w1.heap.size w1 w') := by
    refine (rread_any ao n cap l w1 HL.out (HI.out.next HB1.out) (by omega) hc).mono ?_
    rintro e w' ⟨hb, hr⟩
    rw [HR.out] at hr
    refine ⟨?_, hb⟩
    rcases hr with ⟨h0, a, c, h1, _, h3⟩ | ⟨h0, b, _, h1, _⟩
    · exact ⟨a, _, c, none, 0, 0, by rw [h0]; exact h1, fun _ => ⟨rfl, h3.any⟩⟩
    · exact ⟨none, 0, 0, _, 1, 1, h1, fun hx => absurd hx h0⟩
  have HS2 : Hid (∀ w2, Below w.heap.size w w2 → Calls Tryz.prog 11 #[.slice ao' n' cap'] w2 fun e w' => (∃ a1 m1 c1 a2 m2 c2, e = .returned (.tuple #[.slice a1 m1 c1, .agg #[.slice a2 m2 c2, .int .i64 R'.e]]) ∧ (R'.e = 0 → m1 = R'.l.length ∧ IsNds w' anyB a1 R'.l)) ∧ Below w2.heap.size w2 w') := fun w2 hb2 => by
    refine (rread_any ao' n' cap' l' w2 HL'.out (HI'.out.next hb2) (by omega) hc').mono ?_
    rintro e w' ⟨hb, hr⟩
    rw [HR'.out] at hr
    refine ⟨?_, hb⟩
    rcases hr with ⟨h0, a, c, h1, _, h3⟩ | ⟨h0, b, _, h1, _⟩
    · exact ⟨a, _, c, none, 0, 0, by rw [h0]; exact h1, fun _ => ⟨rfl, h3.any⟩⟩
    · exact ⟨none, 0, 0, _, 1, 1, h1, fun hx => absurd hx h0⟩
  go_wp2_with fail
  refine HS1.out.mono ?_
  rintro e w2 ⟨⟨x1, m1, xc1, x2, m2, xc2, rfl, hN1⟩, hb2⟩
  have HN1 : Hid (R.e = 0 → m1 = R.l.length ∧ IsNds w2 anyB x1 R.l) := hN1
  have HB2 : Hid (Below w.heap.size w (w2.alloc (.cells #[.slice x2 m2 xc2, .int .i64 R.e] 32))) := next_trans HB1.out (next_trans hb2 (alloc_below _ _))
  clear hb2 hN1 HS1
  go_wp2_with fail
  refine (HS2.out _ HB2.out).mono ?_
  rintro e w3 ⟨⟨y1, k1, yc1, y2, k2, yc2, rfl, hN2⟩, hb3⟩
  have HN2 : Hid (R'.e = 0 → k1 = R'.l.length ∧ IsNds w3 anyB y1 R'.l) := hN2
  have HB23 : Hid (Below w2.heap.size w2 w3) := next_trans (alloc_below _ _) hb3
  have v1 : w3.cell? ⟨w2.heap.size, 1, none⟩ = some (.int .i64 R.e) := keep_cell hb3 (box0 rfl)
  have v1' := alloc_cell (w := w3) (o := .cells #[.slice y2 k2 yc2, .int .i64 R'.e] 32) v1
  have u1 : (w3.alloc (.cells #[.slice y2 k2 yc2, .int .i64 R'.e] 32)).cell? ⟨w3.heap.size, 1, none⟩ = some (.int .i64 R'.e) := box0 rfl
  have HB3 : Hid (Below w.heap.size w (w3.alloc (.cells #[.slice y2 k2 yc2, .int .i64 R'.e] 32))) := next_trans HB2.out (next_trans hb3 (alloc_below _ _))
  clear hb3 hN2 HS2 v1
  by_cases he : R.e = 0
  case neg =>
    have hei : (R.e == 0) = false := by simpa using he
    go_wp2
    go_ret
    exact ⟨rfl, HB3.out⟩
  by_cases he' : R'.e = 0
  case neg =>
    have hei : (R.e == 0) = true := by simpa using he
    have hei' : (R'.e == 0) = false := by simpa using he'
    go_wp2
    go_ret
    exact ⟨rfl, HB3.out⟩
  obtain ⟨rfl, hNx⟩ := HN1.out he
  obtain ⟨rfl, hNy⟩ := HN2.out he'
  obtain ⟨hje, hjl⟩ := readQ_join l l' (by rw [HR.out]; exact he) (by rw [HR'.out]; exact he') (by rw [HL.out]; omega) (by rw [HL'.out]; omega)
  rw [HR.out, HR'.out, HL.out] at hjl
  obtain ⟨RJ, HRJ⟩ : ∃ RJ, Hid (readQ (l ++ 10 :: l') = RJ) := ⟨_, rfl⟩
  rw [HRJ.out] at hje hjl
  have HBx : Hid _ := read_bnd l R HR.out he (by rw [HL.out]; omega)
  have HBy : Hid _ := read_bnd l' R' HR'.out he' (by rw [HL'.out]; omega)
  have HBj : Hid _ := read_bnd (l ++ 10 :: l') RJ HRJ.out hje (by rw [List.length_append, List.length_cons, HL.out, HL'.out]; omega)
  obtain ⟨X, ra, re⟩ := R
  obtain ⟨Y, ra', re'⟩ := R'
  obtain ⟨J, rj, rje⟩ := RJ
  simp only at he he' hje hjl v1' u1 hNx hNy HBx HBy HBj HB3 ⊢
  subst he he' hje
  obtain ⟨Mx, HMx⟩ : ∃ Mx, Hid (X.length = Mx) := ⟨_, rfl⟩
  obtain ⟨My, HMy⟩ : ∃ My, Hid (Y.length = My) := ⟨_, rfl⟩
  have HMj : Hid (J.length = Mx + My) := by rw [Hid, hjl, List.length_append, mapL_len, HMx.out, HMy.out]
  have HJ : Hid (J = X ++ mapL (· + (n + 1)) Y) := hjl
  have hMxb : Mx ≤ 10000 := by rw [← HMx.out]; exact HBx.out.2.2.2.1
  have hMyb : My ≤ 10000 := by rw [← HMy.out]; exact HBy.out.2.2.2.1
  obtain ⟨W, HWe⟩ : ∃ W, Hid (w3.alloc (.cells #[.slice y2 k2 yc2, .int .i64 0] 32) = W) := ⟨_, rfl⟩
  have HNx : Hid (IsNds W anyB x1 X) := by rw [← HWe.out]; exact hNx.next (next_trans HB23.out (alloc_below _ _))
  have HNy : Hid (IsNds W anyB y1 Y) := by rw [← HWe.out]; exact hNy.next (alloc_below _ _)
  have HBW : Hid (Below w.heap.size w W) := by rw [← HWe.out]; exact HB3.out
  have v1W : (w3.alloc (.cells #[.slice y2 k2 yc2, .int .i64 0] 32)).cell? ⟨w2.heap.size, 1, none⟩ = some (.int .i64 0) := v1'
  rw [HMx.out, HMy.out]
  obtain ⟨P, HP⟩ : ∃ P, Hid (baL l = P) := ⟨_, rfl⟩
  obtain ⟨Q, HQ⟩ : ∃ Q, Hid (baL l' = Q) := ⟨_, rfl⟩
  have hPs : P.size = n := by rw [← HP.out, baL_size, HL.out]
  have hQs : Q.size = n' := by rw [← HQ.out, baL_size, HL'.out]
  have hcx : (convert 22 9 (.slice ao n cap)).run Tryz.prog (w3.alloc (.cells #[.slice y2 k2 yc2, .int .i64 0] 32)) = .ok (.string P) (w3.alloc (.cells #[.slice y2 k2 yc2, .int .i64 0] 32)) := by rw [← HP.out, HWe.out]; exact conv_isB ao n cap l W HL.out (HI.out.next HBW.out)
  have hcy : (convert 22 9 (.slice ao' n' cap')).run Tryz.prog (w3.alloc (.cells #[.slice y2 k2 yc2, .int .i64 0] 32)) = .ok (.string Q) (w3.alloc (.cells #[.slice y2 k2 yc2, .int .i64 0] 32)) := by rw [← HQ.out, HWe.out]; exact conv_isB ao' n' cap' l' W HL'.out (HI'.out.next HBW.out)
  have hn1 : ¬ 9223372036854775807 < P.size + 1 := by omega
  have hn2 : ¬ 9223372036854775807 < P.size + 1 + Q.size := by omega
  have HSe : Hid (P ++ ⟨#[10]⟩ ++ Q = baL (l ++ 10 :: l')) := by
    rw [Hid, ← HP.out, ← HQ.out, show (⟨#[10]⟩ : ByteArray) = baL [10] from rfl, baL_app, baL_app, List.append_assoc]; rfl
  have hSz : (P ++ ⟨#[10]⟩ ++ Q).size = n + 1 + n' := by rw [HSe.out, baL_size, List.length_append, List.length_cons, HL.out, HL'.out]; omega
  obtain ⟨PW, HPW⟩ : ∃ PW, Hid (W.heap.size = PW) := ⟨_, rfl⟩
  obtain ⟨GC, HGC⟩ : ∃ GC, Hid (grownCap W (n + 1 + n') 0 5 = GC) := ⟨_, rfl⟩
  obtain ⟨BW, HBWe⟩ : ∃ BW, Hid (Lib.bytesWorld W 5 (P ++ ⟨#[10]⟩ ++ Q) = BW) := ⟨_, rfl⟩
  obtain ⟨NN, HNN⟩ : ∃ NN, Hid (n + 1 + n' = NN) := ⟨_, rfl⟩
  have hcv : (convert 9 22 (.string (P ++ ⟨#[10]⟩ ++ Q))).run Tryz.prog (w3.alloc (.cells #[.slice y2 k2 yc2, .int .i64 0] 32)) = .ok (.slice (some ⟨PW, 0, none⟩) NN GC) BW := by
    have := conv_str (P ++ ⟨#[10]⟩ ++ Q) W
    rw [hSz, HGC.out, HBWe.out, HPW.out, HNN.out] at this
    rw [HWe.out]; exact this
  have HRd : Hid (Calls Tryz.prog 10 #[.slice (some ⟨PW, 0, none⟩) NN GC] BW fun e w' => (∃ ao cap, e = .returned (.tuple #[.slice ao (Mx + My) cap, .nilIface]) ∧ IsNds w' anyB ao J) ∧ Below W.heap.size W w') := by
    rw [← HPW.out, ← HGC.out, ← HBWe.out, ← HNN.out]
    refine (read_conv5 (P ++ ⟨#[10]⟩ ++ Q) (l ++ 10 :: l') J rj W (n + 1 + n') hSz HSe.out (by rw [List.length_append, List.length_cons, HL.out, HL'.out]; omega) (H4.out.next HBW.out).max HRJ.out).mono ?_
    rintro e w' ⟨⟨a, c, h1, _, h2⟩, hb⟩
    rw [HMj.out] at h1
    exact ⟨⟨a, c, h1, h2⟩, hb⟩
  clear hNx hNy HB3 HB23 HN1 HN2 HB2 hjl hPs hQs hSz v1'
  go_wp2_with fail
  refine HRd.out.mono ?_
  rintro e w4 ⟨⟨a4, c4, rfl, hN4⟩, hb4⟩
  have HB4 : Hid (Below w.heap.size w w4) := next_trans HBW.out hb4
  have HK : Hid (IsNds w4 anyB a4 J) := hN4
  have HKx : Hid (IsNds w4 anyB x1 X) := HNx.out.next hb4
  have HKy : Hid (IsNds w4 anyB y1 Y) := HNy.out.next hb4
  clear hb4 hN4 HNx HNy hcv hcx hcy HRd u1 v1W hn1 hn2 HSe
  go_wp2
  go_loopw [12] (fun q wr => ∃ k : Nat, k ≤ Mx + My ∧ q = .int .i64 k ∧ Hid (Below w4.heap.size w4 wr)) (fun q _ => Mx + My - (intOf q).toNat)
  case atStart => exact ⟨0, Nat.zero_le _, rfl, Below.refl _ _⟩
  case round =>
    obtain ⟨k, hk, rfl, HW⟩ := hrel
    have HW0 : Hid (Below w.heap.size w wr) := next_trans HB4.out HW.out
    have s0 : Below w4.heap.size w4 wr.drew := HW.out.drew
    have s1 : w4.heap.size ≤ wr.drew.heap.size := s0.size
    by_cases hlt : k < Mx + My
    · have hli : (k : Int) < (Mx : Int) + (My : Int) := by omega
      have hl0 : (0 : Int) ≤ (k : Int) := by omega
      by_cases hx : k < Mx
      · have hxi : (k : Int) < (Mx : Int) := by omega
        have hxd : decide ((k : Int) < (Mx : Int)) = true := decide_eq_true hxi
        have hxg : decide ((Mx : Int) ≤ (k : Int)) = false := decide_eq_false (by omega)
        have hxg2 : decide (Mx ≤ k) = false := decide_eq_false (by omega)
        have hxd2 : decide (k < Mx) = true := decide_eq_true hx
        obtain ⟨x, HG⟩ : ∃ x, Hid (X[k]? = some x) := ⟨_, List.getElem?_eq_getElem (by rw [HMx.out]; exact hx)⟩
        have HGj : Hid (J[k]? = some x) := by rw [Hid, HJ.out, List.getElem?_append_left (by rw [HMx.out]; exact hx)]; exact HG.out
        obtain ⟨b1, o1, ka1, kc1, rfl, hA1⟩ := HK.out.at HGj.out
        obtain ⟨b2, o2, ka2, kc2, rfl, hA2⟩ := HKx.out.at HG.out
        have hxb := HBx.out.2.2.2.2 x (List.mem_of_getElem? HG.out)
        have HC0 : Hid (NdsC w4 x.k (x.a : Int) x.i (baL x.s) x.l x.l.length ka1 kc1 ka2 kc2 (baL (txtN x)) (baL (headN x)) (cntN x : Int) (valN x).1 (valN x).2.1 (baL (valN x).2.2.1) (valN x).2.2.2) :=
          ndsC x ka1 ka2 kc1 kc2 hxb (H4.out.next HB4.out).tab hA1.hc hA2.hc hA1.kids hA2.kids
        obtain ⟨x0, x1', x2', x3, x4⟩ : _ ∧ _ ∧ _ ∧ _ ∧ _ := ⟨hA1.c0, hA1.c1, hA1.c2, hA1.c3, hA1.c4⟩
        obtain ⟨e0, e1, e2, e3, e4⟩ : _ ∧ _ ∧ _ ∧ _ ∧ _ := ⟨hA2.c0, hA2.c1, hA2.c2, hA2.c3, hA2.c4⟩
        obtain ⟨xk, xa, xi, xs, xl⟩ := x
        simp only at HC0 x0 x1' x2' x3 x4 e0 e1 e2 e3 e4
        obtain ⟨Z, HZ⟩ : ∃ Z, Hid (baL xs = Z) := ⟨_, rfl⟩
        obtain ⟨A, HA⟩ : ∃ A : Int, Hid ((xa : Int) = A) := ⟨_, rfl⟩
        obtain ⟨M, HM⟩ : ∃ M, Hid (xl.length = M) := ⟨_, rfl⟩
        have HCo : Hid (∀ w', Below w4.heap.size w4 w' → Calls Tryz.prog 16 #[.agg #[.int .i64 (xk), .int .i64 (A), .int .i64 (xi), .string (Z), .slice ka1 M kc1]] w' fun e w2 => (∃ ao' cap', e = .returned (.agg #[.int .i64 (xk), .int .i64 (A), .int .i64 (xi), .string (Z), .slice ao' M cap']) ∧ M ≤ cap' ∧ IsNds w2 anyB ao' xl) ∧ Below w'.heap.size w' w2) := by
          rw [← HZ.out, ← HA.out, ← HM.out]; exact HC0.out.of_
        have HCp : Hid (∀ ao' cap' w', Below w4.heap.size w4 w' → M ≤ cap' → IsNds w' anyB ao' xl → Calls Tryz.prog 15 #[.agg #[.int .i64 (xk), .int .i64 (A), .int .i64 (xi), .string (Z), .slice ao' M cap'], .agg #[.int .i64 (xk), .int .i64 (A), .int .i64 (xi), .string (Z), .slice ka2 M kc2]] w' fun e w2 => e = .returned (.bool true) ∧ Below w'.heap.size w' w2) := by
          rw [← HZ.out, ← HA.out, ← HM.out]; exact HC0.out.pl
        rw [HZ.out] at x3 e3
        rw [HA.out] at x1' e1
        rw [HM.out] at x4 e4
        have p0 := keep_cell HW.out x0
        have p1 := keep_cell HW.out x1'
        have p2 := keep_cell HW.out x2'
        have p3 := keep_cell HW.out x3
        have p4 := keep_cell HW.out x4
        have q0 := keep_cell HW.out e0
        have q1 := keep_cell HW.out e1
        have q2 := keep_cell HW.out e2
        have q3 := keep_cell HW.out e3
        have q4 := keep_cell HW.out e4
        clear x0 x1' x2' x3 x4 e0 e1 e2 e3 e4 HC0 hA1 hA2 hxb HZ HA HM HG HGj
        go_wp2_with fail
        refine wp_region_held_drew (S := (fun w' => w'.cell? ⟨b1, o1 + k * 5, none⟩ = some (.int .i64 xk) ∧ w'.cell? ⟨b1, o1 + k * 5 + 1, none⟩ = some (.int .i64 A) ∧ w'.cell? ⟨b1, o1 + k * 5 + 2, none⟩ = some (.int .i64 xi) ∧ w'.cell? ⟨b1, o1 + k * 5 + 3, none⟩ = some (.string Z) ∧ w'.cell? ⟨b1, o1 + k * 5 + 4, none⟩ = some (.slice ka1 M kc1) ∧ w'.cell? ⟨b2, o2 + k * 5, none⟩ = some (.int .i64 xk) ∧ w'.cell? ⟨b2, o2 + k * 5 + 1, none⟩ = some (.int .i64 A) ∧ w'.cell? ⟨b2, o2 + k * 5 + 2, none⟩ = some (.int .i64 xi) ∧ w'.cell? ⟨b2, o2 + k * 5 + 3, none⟩ = some (.string Z) ∧ w'.cell? ⟨b2, o2 + k * 5 + 4, none⟩ = some (.slice ka2 M kc2) ∧ Below w4.heap.size w4 w' ∧ w4.heap.size ≤ w'.heap.size)) (by kernel_rfl) ?_ (fun hHeld => ?_)
        · exact ⟨p0, p1, p2, p3, p4, q0, q1, q2, q3, q4, s0, s1⟩
        refine wpAnyH_take (i := 0) (oi := { dst := some 71, op := Op.move (Operand.tmp 12), type := 3, pos := "more.go:27", after := #[], guard := none }) (v := ?_) rfl (by kernel_rfl) (by kernel_rfl) (by kernel_rfl) (fun _ _ _ h => h) (Or.inl ⟨by rfl, ?hyA0⟩) (by assumption) ?_
        case hyA0 => (intro w hSw; (try dsimp only at hSw); go_simp; try with_reducible rfl)
        (try simp only [Act.put, List.setIfInBounds_toArray, List.set_cons_zero, List.set_cons_succ])
        refine wpAnyH_take (i := 1) (oi := { dst := some 72, op := Op.move (Operand.tmp 5), type := 29, pos := "more.go:27", after := #[], guard := none }) (v := ?_) rfl (by kernel_rfl) (by kernel_rfl) (by kernel_rfl) (fun _ _ _ h => h) (Or.inl ⟨by rfl, ?hyA1⟩) (by assumption) ?_
        case hyA1 => (intro w hSw; (try dsimp only at hSw); go_simp; try with_reducible rfl)
        (try simp only [Act.put, List.setIfInBounds_toArray, List.set_cons_zero, List.set_cons_succ])
        refine wpAnyH_take (i := 2) (oi := { dst := some 73, op := Op.call { callee := Callee.builtin Builtin.len, args := #[Operand.tmp 72], argTypes := #[29] }, type := 3, pos := "more.go:27", after := #[{ on := 1, ground := Ground.data }], guard := none }) (v := ?_) rfl (by kernel_rfl) (by kernel_rfl) (by kernel_rfl) (fun _ _ _ h => h) (Or.inl ⟨by rfl, ?hyA2⟩) (by assumption) ?_
        case hyA2 => (intro w hSw; (try dsimp only at hSw); go_simp; try with_reducible rfl)
        (try simp only [Act.put, List.setIfInBounds_toArray, List.set_cons_zero, List.set_cons_succ])
        refine wpAnyH_take (i := 3) (oi := { dst := some 74, op := Op.binOp BinOp.lss 3 (Operand.tmp 71) (Operand.tmp 73) 3, type := 4, pos := "more.go:27", after := #[{ on := 0, ground := Ground.data }, { on := 2, ground := Ground.data }], guard := none }) (v := ?_) rfl (by kernel_rfl) (by kernel_rfl) (by kernel_rfl) (fun _ _ _ h => h) (Or.inl ⟨by rfl, ?hyA3⟩) (by assumption) ?_
        case hyA3 => (intro w hSw; (try dsimp only at hSw); go_simp; try with_reducible rfl)
        (try simp only [Act.put, List.setIfInBounds_toArray, List.set_cons_zero, List.set_cons_succ])
        refine wpAnyH_take (i := 4) (oi := { dst := some 75, op := Op.move (Operand.tmp 74), type := 4, pos := "more.go:27", after := #[{ on := 3, ground := Ground.data }], guard := none }) (v := ?_) rfl (by kernel_rfl) (by kernel_rfl) (by kernel_rfl) (fun _ _ _ h => h) (Or.inl ⟨by rfl, ?hyA4⟩) (by assumption) ?_
        case hyA4 => (intro w hSw; (try dsimp only at hSw); go_simp; try with_reducible rfl)
        (try simp only [Act.put, List.setIfInBounds_toArray, List.set_cons_zero, List.set_cons_succ])
        refine wpAnyH_take (i := 5) (oi := { dst := some 76, op := Op.move (Operand.tmp 10), type := 24, pos := "more.go:27", after := #[{ on := 4, ground := Ground.guard }], guard := some (4, true) }) (v := ?_) rfl (by kernel_rfl) (by kernel_rfl) (by kernel_rfl) (fun _ _ _ h => h) (Or.inl ⟨by rfl, ?hyA5⟩) (by assumption) ?_
        case hyA5 => (intro w hSw; (try dsimp only at hSw); go_simp; try with_reducible rfl)
        (try simp only [Act.put, List.setIfInBounds_toArray, List.set_cons_zero, List.set_cons_succ])
        refine wpAnyH_take (i := 6) (oi := { dst := some 77, op := Op.move (Operand.tmp 12), type := 3, pos := "more.go:27", after := #[{ on := 4, ground := Ground.guard }], guard := some (4, true) }) (v := ?_) rfl (by kernel_rfl) (by kernel_rfl) (by kernel_rfl) (fun _ _ _ h => h) (Or.inl ⟨by rfl, ?hyA6⟩) (by assumption) ?_
        case hyA6 => (intro w hSw; (try dsimp only at hSw); go_simp; try with_reducible rfl)
        (try simp only [Act.put, List.setIfInBounds_toArray, List.set_cons_zero, List.set_cons_succ])
        refine wpAnyH_take (i := 7) (oi := { dst := some 78, op := Op.indexAddr 24 (Operand.tmp 76) (Operand.tmp 77), type := 0, pos := "more.go:27", after := #[{ on := 5, ground := Ground.data }, { on := 6, ground := Ground.data }, { on := 4, ground := Ground.guard }], guard := some (4, true) }) (v := ?_) rfl (by kernel_rfl) (by kernel_rfl) (by kernel_rfl) (fun _ _ _ h => h) (Or.inl ⟨by rfl, ?hyA7⟩) (by assumption) ?_
        case hyA7 => (intro w hSw; (try dsimp only at hSw); go_simp; try with_reducible rfl)
        (try simp only [Act.put, List.setIfInBounds_toArray, List.set_cons_zero, List.set_cons_succ])
        refine wpAnyH_take (i := 8) (oi := { dst := some 79, op := Op.load 41 (Operand.tmp 78), type := 41, pos := "more.go:27", after := #[{ on := 7, ground := Ground.data }, { on := 4, ground := Ground.guard }], guard := some (4, true) }) (v := ?_) rfl (by kernel_rfl) (by kernel_rfl) (by kernel_rfl) (fun _ _ _ h => h) (Or.inl ⟨by rfl, ?hyA8⟩) (by assumption) ?_
        case hyA8 => (intro w hSw; (try dsimp only at hSw); go_simp; try with_reducible rfl)
        (try simp only [Act.put, List.setIfInBounds_toArray, List.set_cons_zero, List.set_cons_succ])
        refine wpAnyH_take (i := 10) (oi := { dst := some 81, op := Op.move (Operand.tmp 5), type := 29, pos := "more.go:27", after := #[{ on := 4, ground := Ground.guard }], guard := some (4, true) }) (v := ?_) rfl (by kernel_rfl) (by kernel_rfl) (by kernel_rfl) (fun _ _ _ h => h) (Or.inl ⟨by rfl, ?hyA10⟩) (by assumption) ?_
        case hyA10 => (intro w hSw; (try dsimp only at hSw); go_simp; try with_reducible rfl)
        (try simp only [Act.put, List.setIfInBounds_toArray, List.set_cons_zero, List.set_cons_succ])
        refine wpAnyH_take (i := 11) (oi := { dst := some 82, op := Op.move (Operand.tmp 12), type := 3, pos := "more.go:27", after := #[{ on := 4, ground := Ground.guard }], guard := some (4, true) }) (v := ?_) rfl (by kernel_rfl) (by kernel_rfl) (by kernel_rfl) (fun _ _ _ h => h) (Or.inl ⟨by rfl, ?hyA11⟩) (by assumption) ?_
        case hyA11 => (intro w hSw; (try dsimp only at hSw); go_simp; try with_reducible rfl)
        (try simp only [Act.put, List.setIfInBounds_toArray, List.set_cons_zero, List.set_cons_succ])
        refine wpAnyH_take (i := 12) (oi := { dst := some 83, op := Op.indexAddr 29 (Operand.tmp 81) (Operand.tmp 82), type := 0, pos := "more.go:27", after := #[{ on := 10, ground := Ground.data }, { on := 11, ground := Ground.data }, { on := 4, ground := Ground.guard }], guard := some (4, true) }) (v := ?_) rfl (by kernel_rfl) (by kernel_rfl) (by kernel_rfl) (fun _ _ _ h => h) (Or.inl ⟨by rfl, ?hyA12⟩) (by assumption) ?_
        case hyA12 => (intro w hSw; (try dsimp only at hSw); go_simp; try with_reducible rfl)
        (try simp only [Act.put, List.setIfInBounds_toArray, List.set_cons_zero, List.set_cons_succ])
        refine wpAnyH_take (i := 13) (oi := { dst := some 84, op := Op.load 44 (Operand.tmp 83), type := 44, pos := "more.go:27", after := #[{ on := 12, ground := Ground.data }, { on := 4, ground := Ground.guard }], guard := some (4, true) }) (v := ?_) rfl (by kernel_rfl) (by kernel_rfl) (by kernel_rfl) (fun _ _ _ h => h) (Or.inl ⟨by rfl, ?hyA13⟩) (by assumption) ?_
        case hyA13 => (intro w hSw; (try dsimp only at hSw); go_simp; try with_reducible rfl)
        (try simp only [Act.put, List.setIfInBounds_toArray, List.set_cons_zero, List.set_cons_succ])
        refine wpAnyH_ready (rs := [9]) (by kernel_rfl) (by simp) ?_
        refine AllReadyH.cons (o := { dst := some 80, op := Op.call { callee := Callee.value (Operand.func 16), args := #[Operand.tmp 79], argTypes := #[41] }, type := 44, pos := "more.go:27", after := #[{ on := 8, ground := Ground.data }, { on := 4, ground := Ground.chain }, { on := 4, ground := Ground.guard }], guard := some (4, true) }) rfl (fun K hK => ?_) AllReadyH.nil
        go_simp
        have hH2 := hHeld
        obtain ⟨_, _, _, _, _, _, _, _, _, _, hbl, _⟩ := hH2
        with_reducible refine (HCo.out _ hbl).mono ?_
        rintro e w' ⟨⟨ao', cap', rfl, hcap', hkid'⟩, hb⟩
        refine hK.out _ _ ?_ (fun hHeld2 => ?_)
        · (((try dsimp only); go_split_ands; refine ⟨?_, ?_, ?_, ?_, ?_, ?_, ?_, ?_, ?_, ?_, ?_, ?_⟩ <;> first | assumption | exact keep_cell (by assumption) (by assumption) | exact below_next (by assumption) (by assumption) (by assumption) | exact le_next (by assumption) (by assumption)))
        clear hK K
        (try simp only [Act.put, List.setIfInBounds_toArray, List.set_cons_zero, List.set_cons_succ])
        refine wpAnyH_ready (rs := [14]) (by kernel_rfl) (by simp) ?_
        refine AllReadyH.cons (o := { dst := some 85, op := Op.call { callee := Callee.value (Operand.func 15), args := #[Operand.tmp 80, Operand.tmp 84], argTypes := #[44, 44] }, type := 4, pos := "more.go:27", after := #[{ on := 9, ground := Ground.data }, { on := 13, ground := Ground.data }, { on := 9, ground := Ground.chain }, { on := 4, ground := Ground.guard }], guard := some (4, true) }) rfl (fun K hK => ?_) AllReadyH.nil
        go_simp
        have hH2 := hHeld2
        obtain ⟨_, _, _, _, _, _, _, _, _, _, hbl2, _⟩ := hH2
        with_reducible refine (HCp.out _ _ _ hbl2 hcap' hkid').mono ?_
        rintro e w'' ⟨rfl, hb'⟩
        refine hK.out _ _ ?_ (fun hHeld3 => ?_)
        · (((try dsimp only); go_split_ands; refine ⟨?_, ?_, ?_, ?_, ?_, ?_, ?_, ?_, ?_, ?_, ?_, ?_⟩ <;> first | assumption | exact keep_cell (by assumption) (by assumption) | exact below_next (by assumption) (by assumption) (by assumption) | exact le_next (by assumption) (by assumption)))
        clear hK K
        (try simp only [Act.put, List.setIfInBounds_toArray, List.set_cons_zero, List.set_cons_succ])
        refine wpAnyH_take (i := 15) (oi := { dst := some 86, op := Op.unOp UnOp.not 4 (Operand.tmp 85), type := 4, pos := "more.go:27", after := #[{ on := 14, ground := Ground.data }, { on := 4, ground := Ground.guard }], guard := some (4, true) }) (v := ?_) rfl (by kernel_rfl) (by kernel_rfl) (by kernel_rfl) (fun _ _ _ h => h) (Or.inl ⟨by rfl, ?hyA15⟩) (by assumption) ?_
        case hyA15 => (intro w hSw; (try dsimp only at hSw); go_simp; try with_reducible rfl)
        (try simp only [Act.put, List.setIfInBounds_toArray, List.set_cons_zero, List.set_cons_succ])
        refine wpAnyH_take (i := 16) (oi := { dst := some 87, op := Op.pick (Operand.tmp 75) (Operand.tmp 86) (Operand.const (Value.bool false)), type := 4, pos := "more.go:27", after := #[{ on := 4, ground := Ground.data }, { on := 15, ground := Ground.data }], guard := none }) (v := ?_) rfl (by kernel_rfl) (by kernel_rfl) (by kernel_rfl) (fun _ _ _ h => h) (Or.inl ⟨by rfl, ?hyA16⟩) (by assumption) ?_
        case hyA16 => (intro w hSw; (try dsimp only at hSw); go_simp; try with_reducible rfl)
        (try simp only [Act.put, List.setIfInBounds_toArray, List.set_cons_zero, List.set_cons_succ])
        refine wpAnyH_take (i := 17) (oi := { dst := some 88, op := Op.move (Operand.tmp 87), type := 4, pos := "more.go:27", after := #[{ on := 16, ground := Ground.data }, { on := 14, ground := Ground.chain }], guard := none }) (v := ?_) rfl (by kernel_rfl) (by kernel_rfl) (by kernel_rfl) (fun _ _ _ h => h) (Or.inl ⟨by rfl, ?hyA17⟩) (by assumption) ?_
        case hyA17 => (intro w hSw; (try dsimp only at hSw); go_simp; try with_reducible rfl)
        (try simp only [Act.put, List.setIfInBounds_toArray, List.set_cons_zero, List.set_cons_succ])
        refine wpAnyH_take (i := 18) (oi := { dst := some 89, op := Op.move (Operand.tmp 12), type := 3, pos := "more.go:27", after := #[{ on := 17, ground := Ground.guard }], guard := some (17, false) }) (v := ?_) rfl (by kernel_rfl) (by kernel_rfl) (by kernel_rfl) (fun _ _ _ h => h) (Or.inl ⟨by rfl, ?hyA18⟩) (by assumption) ?_
        case hyA18 => (intro w hSw; (try dsimp only at hSw); go_simp; try with_reducible rfl)
        (try simp only [Act.put, List.setIfInBounds_toArray, List.set_cons_zero, List.set_cons_succ])
        refine wpAnyH_take (i := 19) (oi := { dst := some 90, op := Op.move (Operand.tmp 5), type := 29, pos := "more.go:27", after := #[{ on := 17, ground := Ground.guard }], guard := some (17, false) }) (v := ?_) rfl (by kernel_rfl) (by kernel_rfl) (by kernel_rfl) (fun _ _ _ h => h) (Or.inl ⟨by rfl, ?hyA19⟩) (by assumption) ?_
        case hyA19 => (intro w hSw; (try dsimp only at hSw); go_simp; try with_reducible rfl)
        (try simp only [Act.put, List.setIfInBounds_toArray, List.set_cons_zero, List.set_cons_succ])
        refine wpAnyH_take (i := 20) (oi := { dst := some 91, op := Op.call { callee := Callee.builtin Builtin.len, args := #[Operand.tmp 90], argTypes := #[29] }, type := 3, pos := "more.go:27", after := #[{ on := 19, ground := Ground.data }, { on := 17, ground := Ground.guard }], guard := some (17, false) }) (v := ?_) rfl (by kernel_rfl) (by kernel_rfl) (by kernel_rfl) (fun _ _ _ h => h) (Or.inl ⟨by rfl, ?hyA20⟩) (by assumption) ?_
        case hyA20 => (intro w hSw; (try dsimp only at hSw); go_simp; try with_reducible rfl)
        (try simp only [Act.put, List.setIfInBounds_toArray, List.set_cons_zero, List.set_cons_succ])
        refine wpAnyH_take (i := 21) (oi := { dst := some 92, op := Op.binOp BinOp.geq 3 (Operand.tmp 89) (Operand.tmp 91) 3, type := 4, pos := "more.go:27", after := #[{ on := 18, ground := Ground.data }, { on := 20, ground := Ground.data }, { on := 17, ground := Ground.guard }], guard := some (17, false) }) (v := ?_) rfl (by kernel_rfl) (by kernel_rfl) (by kernel_rfl) (fun _ _ _ h => h) (Or.inl ⟨by rfl, ?hyA21⟩) (by assumption) ?_
        case hyA21 => (intro w hSw; (try dsimp only at hSw); go_simp; try with_reducible rfl)
        (try simp only [Act.put, List.setIfInBounds_toArray, List.set_cons_zero, List.set_cons_succ])
        refine wpAnyH_take (i := 22) (oi := { dst := some 93, op := Op.move (Operand.tmp 92), type := 4, pos := "more.go:27", after := #[{ on := 21, ground := Ground.data }, { on := 17, ground := Ground.chain }, { on := 17, ground := Ground.guard }], guard := some (17, false) }) (v := ?_) rfl (by kernel_rfl) (by kernel_rfl) (by kernel_rfl) (fun _ _ _ h => h) (Or.inl ⟨by rfl, ?hyA22⟩) (by assumption) ?_
        case hyA22 => (intro w hSw; (try dsimp only at hSw); go_simp; try with_reducible rfl)
        (try simp only [Act.put, List.setIfInBounds_toArray, List.set_cons_zero, List.set_cons_succ])
        refine wpAnyH_take (i := 23) (oi := { dst := some 94, op := Op.move (Operand.tmp 10), type := 24, pos := "more.go:27", after := #[{ on := 22, ground := Ground.guard }], guard := some (22, true) }) (v := undef) rfl (by kernel_rfl) (by kernel_rfl) (by kernel_rfl) (fun _ _ _ h => h) (Or.inr ⟨by rfl, rfl⟩) (by assumption) ?_
        (try simp only [Act.put, List.setIfInBounds_toArray, List.set_cons_zero, List.set_cons_succ])
        refine wpAnyH_take (i := 24) (oi := { dst := some 95, op := Op.move (Operand.tmp 12), type := 3, pos := "more.go:27", after := #[{ on := 22, ground := Ground.guard }], guard := some (22, true) }) (v := undef) rfl (by kernel_rfl) (by kernel_rfl) (by kernel_rfl) (fun _ _ _ h => h) (Or.inr ⟨by rfl, rfl⟩) (by assumption) ?_
        (try simp only [Act.put, List.setIfInBounds_toArray, List.set_cons_zero, List.set_cons_succ])
        refine wpAnyH_take (i := 25) (oi := { dst := some 96, op := Op.indexAddr 24 (Operand.tmp 94) (Operand.tmp 95), type := 0, pos := "more.go:27", after := #[{ on := 23, ground := Ground.data }, { on := 24, ground := Ground.data }, { on := 22, ground := Ground.guard }], guard := some (22, true) }) (v := undef) rfl (by kernel_rfl) (by kernel_rfl) (by kernel_rfl) (fun _ _ _ h => h) (Or.inr ⟨by rfl, rfl⟩) (by assumption) ?_
        (try simp only [Act.put, List.setIfInBounds_toArray, List.set_cons_zero, List.set_cons_succ])
        refine wpAnyH_take (i := 26) (oi := { dst := some 97, op := Op.load 41 (Operand.tmp 96), type := 41, pos := "more.go:27", after := #[{ on := 25, ground := Ground.data }, { on := 22, ground := Ground.guard }], guard := some (22, true) }) (v := undef) rfl (by kernel_rfl) (by kernel_rfl) (by kernel_rfl) (fun _ _ _ h => h) (Or.inr ⟨by rfl, rfl⟩) (by assumption) ?_
        (try simp only [Act.put, List.setIfInBounds_toArray, List.set_cons_zero, List.set_cons_succ])
        refine wpAnyH_take (i := 27) (oi := { dst := some 98, op := Op.call { callee := Callee.value (Operand.func 16), args := #[Operand.tmp 97], argTypes := #[41] }, type := 44, pos := "more.go:27", after := #[{ on := 26, ground := Ground.data }, { on := 22, ground := Ground.chain }, { on := 22, ground := Ground.guard }], guard := some (22, true) }) (v := undef) rfl (by kernel_rfl) (by kernel_rfl) (by kernel_rfl) (fun _ _ _ h => h) (Or.inr ⟨by rfl, rfl⟩) (by assumption) ?_
        (try simp only [Act.put, List.setIfInBounds_toArray, List.set_cons_zero, List.set_cons_succ])
        refine wpAnyH_take (i := 28) (oi := { dst := some 99, op := Op.move (Operand.tmp 7), type := 29, pos := "more.go:27", after := #[{ on := 22, ground := Ground.guard }], guard := some (22, true) }) (v := undef) rfl (by kernel_rfl) (by kernel_rfl) (by kernel_rfl) (fun _ _ _ h => h) (Or.inr ⟨by rfl, rfl⟩) (by assumption) ?_
        (try simp only [Act.put, List.setIfInBounds_toArray, List.set_cons_zero, List.set_cons_succ])
        refine wpAnyH_take (i := 29) (oi := { dst := some 100, op := Op.move (Operand.tmp 12), type := 3, pos := "more.go:27", after := #[{ on := 22, ground := Ground.guard }], guard := some (22, true) }) (v := undef) rfl (by kernel_rfl) (by kernel_rfl) (by kernel_rfl) (fun _ _ _ h => h) (Or.inr ⟨by rfl, rfl⟩) (by assumption) ?_
        (try simp only [Act.put, List.setIfInBounds_toArray, List.set_cons_zero, List.set_cons_succ])
        refine wpAnyH_take (i := 30) (oi := { dst := some 101, op := Op.move (Operand.tmp 5), type := 29, pos := "more.go:27", after := #[{ on := 22, ground := Ground.guard }], guard := some (22, true) }) (v := undef) rfl (by kernel_rfl) (by kernel_rfl) (by kernel_rfl) (fun _ _ _ h => h) (Or.inr ⟨by rfl, rfl⟩) (by assumption) ?_
        (try simp only [Act.put, List.setIfInBounds_toArray, List.set_cons_zero, List.set_cons_succ])
        refine wpAnyH_take (i := 31) (oi := { dst := some 102, op := Op.call { callee := Callee.builtin Builtin.len, args := #[Operand.tmp 101], argTypes := #[29] }, type := 3, pos := "more.go:27", after := #[{ on := 30, ground := Ground.data }, { on := 22, ground := Ground.guard }], guard := some (22, true) }) (v := undef) rfl (by kernel_rfl) (by kernel_rfl) (by kernel_rfl) (fun _ _ _ h => h) (Or.inr ⟨by rfl, rfl⟩) (by assumption) ?_
        (try simp only [Act.put, List.setIfInBounds_toArray, List.set_cons_zero, List.set_cons_succ])
        refine wpAnyH_take (i := 32) (oi := { dst := some 103, op := Op.binOp BinOp.sub 3 (Operand.tmp 100) (Operand.tmp 102) 3, type := 3, pos := "more.go:27", after := #[{ on := 29, ground := Ground.data }, { on := 31, ground := Ground.data }, { on := 22, ground := Ground.guard }], guard := some (22, true) }) (v := undef) rfl (by kernel_rfl) (by kernel_rfl) (by kernel_rfl) (fun _ _ _ h => h) (Or.inr ⟨by rfl, rfl⟩) (by assumption) ?_
        (try simp only [Act.put, List.setIfInBounds_toArray, List.set_cons_zero, List.set_cons_succ])
        refine wpAnyH_take (i := 33) (oi := { dst := some 104, op := Op.indexAddr 29 (Operand.tmp 99) (Operand.tmp 103), type := 0, pos := "more.go:27", after := #[{ on := 28, ground := Ground.data }, { on := 32, ground := Ground.data }, { on := 22, ground := Ground.guard }], guard := some (22, true) }) (v := undef) rfl (by kernel_rfl) (by kernel_rfl) (by kernel_rfl) (fun _ _ _ h => h) (Or.inr ⟨by rfl, rfl⟩) (by assumption) ?_
        (try simp only [Act.put, List.setIfInBounds_toArray, List.set_cons_zero, List.set_cons_succ])
        refine wpAnyH_take (i := 34) (oi := { dst := some 105, op := Op.load 44 (Operand.tmp 104), type := 44, pos := "more.go:27", after := #[{ on := 33, ground := Ground.data }, { on := 22, ground := Ground.guard }], guard := some (22, true) }) (v := undef) rfl (by kernel_rfl) (by kernel_rfl) (by kernel_rfl) (fun _ _ _ h => h) (Or.inr ⟨by rfl, rfl⟩) (by assumption) ?_
        (try simp only [Act.put, List.setIfInBounds_toArray, List.set_cons_zero, List.set_cons_succ])
        refine wpAnyH_take (i := 35) (oi := { dst := some 106, op := Op.call { callee := Callee.value (Operand.func 25), args := #[Operand.tmp 98, Operand.tmp 105], argTypes := #[44, 44] }, type := 4, pos := "more.go:27", after := #[{ on := 27, ground := Ground.data }, { on := 34, ground := Ground.data }, { on := 27, ground := Ground.chain }, { on := 22, ground := Ground.guard }], guard := some (22, true) }) (v := undef) rfl (by kernel_rfl) (by kernel_rfl) (by kernel_rfl) (fun _ _ _ h => h) (Or.inr ⟨by rfl, rfl⟩) (by assumption) ?_
        (try simp only [Act.put, List.setIfInBounds_toArray, List.set_cons_zero, List.set_cons_succ])
        refine wpAnyH_take (i := 36) (oi := { dst := some 107, op := Op.unOp UnOp.not 4 (Operand.tmp 106), type := 4, pos := "more.go:27", after := #[{ on := 35, ground := Ground.data }, { on := 22, ground := Ground.guard }], guard := some (22, true) }) (v := undef) rfl (by kernel_rfl) (by kernel_rfl) (by kernel_rfl) (fun _ _ _ h => h) (Or.inr ⟨by rfl, rfl⟩) (by assumption) ?_
        (try simp only [Act.put, List.setIfInBounds_toArray, List.set_cons_zero, List.set_cons_succ])
        refine wpAnyH_take (i := 37) (oi := { dst := some 108, op := Op.move (Operand.tmp 107), type := 4, pos := "more.go:27", after := #[{ on := 36, ground := Ground.data }, { on := 35, ground := Ground.chain }, { on := 22, ground := Ground.guard }], guard := some (22, true) }) (v := undef) rfl (by kernel_rfl) (by kernel_rfl) (by kernel_rfl) (fun _ _ _ h => h) (Or.inr ⟨by rfl, rfl⟩) (by assumption) ?_
        (try simp only [Act.put, List.setIfInBounds_toArray, List.set_cons_zero, List.set_cons_succ])
        refine wpAnyH_take (i := 38) (oi := { dst := some 109, op := Op.move (Operand.tmp 10), type := 24, pos := "more.go:27", after := #[{ on := 37, ground := Ground.guard }], guard := some (37, false) }) (v := undef) rfl (by kernel_rfl) (by kernel_rfl) (by kernel_rfl) (fun _ _ _ h => h) (Or.inr ⟨by rfl, rfl⟩) (by assumption) ?_
        (try simp only [Act.put, List.setIfInBounds_toArray, List.set_cons_zero, List.set_cons_succ])
        refine wpAnyH_take (i := 39) (oi := { dst := some 110, op := Op.move (Operand.tmp 12), type := 3, pos := "more.go:27", after := #[{ on := 37, ground := Ground.guard }], guard := some (37, false) }) (v := undef) rfl (by kernel_rfl) (by kernel_rfl) (by kernel_rfl) (fun _ _ _ h => h) (Or.inr ⟨by rfl, rfl⟩) (by assumption) ?_
        (try simp only [Act.put, List.setIfInBounds_toArray, List.set_cons_zero, List.set_cons_succ])
        refine wpAnyH_take (i := 40) (oi := { dst := some 111, op := Op.indexAddr 24 (Operand.tmp 109) (Operand.tmp 110), type := 0, pos := "more.go:27", after := #[{ on := 38, ground := Ground.data }, { on := 39, ground := Ground.data }, { on := 37, ground := Ground.guard }], guard := some (37, false) }) (v := undef) rfl (by kernel_rfl) (by kernel_rfl) (by kernel_rfl) (fun _ _ _ h => h) (Or.inr ⟨by rfl, rfl⟩) (by assumption) ?_
        (try simp only [Act.put, List.setIfInBounds_toArray, List.set_cons_zero, List.set_cons_succ])
        refine wpAnyH_take (i := 41) (oi := { dst := some 112, op := Op.fieldAddr 41 (Operand.tmp 111) 1, type := 0, pos := "more.go:27", after := #[{ on := 40, ground := Ground.data }, { on := 37, ground := Ground.guard }], guard := some (37, false) }) (v := undef) rfl (by kernel_rfl) (by kernel_rfl) (by kernel_rfl) (fun _ _ _ h => h) (Or.inr ⟨by rfl, rfl⟩) (by assumption) ?_
        (try simp only [Act.put, List.setIfInBounds_toArray, List.set_cons_zero, List.set_cons_succ])
        refine wpAnyH_take (i := 42) (oi := { dst := some 113, op := Op.load 3 (Operand.tmp 112), type := 3, pos := "more.go:27", after := #[{ on := 41, ground := Ground.data }, { on := 37, ground := Ground.guard }], guard := some (37, false) }) (v := undef) rfl (by kernel_rfl) (by kernel_rfl) (by kernel_rfl) (fun _ _ _ h => h) (Or.inr ⟨by rfl, rfl⟩) (by assumption) ?_
        (try simp only [Act.put, List.setIfInBounds_toArray, List.set_cons_zero, List.set_cons_succ])
        refine wpAnyH_take (i := 43) (oi := { dst := some 114, op := Op.move (Operand.tmp 7), type := 29, pos := "more.go:27", after := #[{ on := 37, ground := Ground.guard }], guard := some (37, false) }) (v := undef) rfl (by kernel_rfl) (by kernel_rfl) (by kernel_rfl) (fun _ _ _ h => h) (Or.inr ⟨by rfl, rfl⟩) (by assumption) ?_
        (try simp only [Act.put, List.setIfInBounds_toArray, List.set_cons_zero, List.set_cons_succ])
        refine wpAnyH_take (i := 44) (oi := { dst := some 115, op := Op.move (Operand.tmp 12), type := 3, pos := "more.go:27", after := #[{ on := 37, ground := Ground.guard }], guard := some (37, false) }) (v := undef) rfl (by kernel_rfl) (by kernel_rfl) (by kernel_rfl) (fun _ _ _ h => h) (Or.inr ⟨by rfl, rfl⟩) (by assumption) ?_
        (try simp only [Act.put, List.setIfInBounds_toArray, List.set_cons_zero, List.set_cons_succ])
        refine wpAnyH_take (i := 45) (oi := { dst := some 116, op := Op.move (Operand.tmp 5), type := 29, pos := "more.go:27", after := #[{ on := 37, ground := Ground.guard }], guard := some (37, false) }) (v := undef) rfl (by kernel_rfl) (by kernel_rfl) (by kernel_rfl) (fun _ _ _ h => h) (Or.inr ⟨by rfl, rfl⟩) (by assumption) ?_
        (try simp only [Act.put, List.setIfInBounds_toArray, List.set_cons_zero, List.set_cons_succ])
        refine wpAnyH_take (i := 46) (oi := { dst := some 117, op := Op.call { callee := Callee.builtin Builtin.len, args := #[Operand.tmp 116], argTypes := #[29] }, type := 3, pos := "more.go:27", after := #[{ on := 45, ground := Ground.data }, { on := 37, ground := Ground.guard }], guard := some (37, false) }) (v := undef) rfl (by kernel_rfl) (by kernel_rfl) (by kernel_rfl) (fun _ _ _ h => h) (Or.inr ⟨by rfl, rfl⟩) (by assumption) ?_
        (try simp only [Act.put, List.setIfInBounds_toArray, List.set_cons_zero, List.set_cons_succ])
        refine wpAnyH_take (i := 47) (oi := { dst := some 118, op := Op.binOp BinOp.sub 3 (Operand.tmp 115) (Operand.tmp 117) 3, type := 3, pos := "more.go:27", after := #[{ on := 44, ground := Ground.data }, { on := 46, ground := Ground.data }, { on := 37, ground := Ground.guard }], guard := some (37, false) }) (v := undef) rfl (by kernel_rfl) (by kernel_rfl) (by kernel_rfl) (fun _ _ _ h => h) (Or.inr ⟨by rfl, rfl⟩) (by assumption) ?_
        (try simp only [Act.put, List.setIfInBounds_toArray, List.set_cons_zero, List.set_cons_succ])
        refine wpAnyH_take (i := 48) (oi := { dst := some 119, op := Op.indexAddr 29 (Operand.tmp 114) (Operand.tmp 118), type := 0, pos := "more.go:27", after := #[{ on := 43, ground := Ground.data }, { on := 47, ground := Ground.data }, { on := 37, ground := Ground.guard }], guard := some (37, false) }) (v := undef) rfl (by kernel_rfl) (by kernel_rfl) (by kernel_rfl) (fun _ _ _ h => h) (Or.inr ⟨by rfl, rfl⟩) (by assumption) ?_
        (try simp only [Act.put, List.setIfInBounds_toArray, List.set_cons_zero, List.set_cons_succ])
        refine wpAnyH_take (i := 49) (oi := { dst := some 120, op := Op.fieldAddr 44 (Operand.tmp 119) 1, type := 0, pos := "more.go:27", after := #[{ on := 48, ground := Ground.data }, { on := 37, ground := Ground.guard }], guard := some (37, false) }) (v := undef) rfl (by kernel_rfl) (by kernel_rfl) (by kernel_rfl) (fun _ _ _ h => h) (Or.inr ⟨by rfl, rfl⟩) (by assumption) ?_
        (try simp only [Act.put, List.setIfInBounds_toArray, List.set_cons_zero, List.set_cons_succ])
        refine wpAnyH_take (i := 50) (oi := { dst := some 121, op := Op.load 3 (Operand.tmp 120), type := 3, pos := "more.go:27", after := #[{ on := 49, ground := Ground.data }, { on := 37, ground := Ground.guard }], guard := some (37, false) }) (v := undef) rfl (by kernel_rfl) (by kernel_rfl) (by kernel_rfl) (fun _ _ _ h => h) (Or.inr ⟨by rfl, rfl⟩) (by assumption) ?_
        (try simp only [Act.put, List.setIfInBounds_toArray, List.set_cons_zero, List.set_cons_succ])
        refine wpAnyH_take (i := 51) (oi := { dst := some 122, op := Op.move (Operand.tmp 0), type := 22, pos := "more.go:27", after := #[{ on := 37, ground := Ground.guard }], guard := some (37, false) }) (v := undef) rfl (by kernel_rfl) (by kernel_rfl) (by kernel_rfl) (fun _ _ _ h => h) (Or.inr ⟨by rfl, rfl⟩) (by assumption) ?_
        (try simp only [Act.put, List.setIfInBounds_toArray, List.set_cons_zero, List.set_cons_succ])
        refine wpAnyH_take (i := 52) (oi := { dst := some 123, op := Op.call { callee := Callee.builtin Builtin.len, args := #[Operand.tmp 122], argTypes := #[22] }, type := 3, pos := "more.go:27", after := #[{ on := 51, ground := Ground.data }, { on := 37, ground := Ground.guard }], guard := some (37, false) }) (v := undef) rfl (by kernel_rfl) (by kernel_rfl) (by kernel_rfl) (fun _ _ _ h => h) (Or.inr ⟨by rfl, rfl⟩) (by assumption) ?_
        (try simp only [Act.put, List.setIfInBounds_toArray, List.set_cons_zero, List.set_cons_succ])
        refine wpAnyH_take (i := 53) (oi := { dst := some 124, op := Op.binOp BinOp.add 3 (Operand.tmp 121) (Operand.tmp 123) 3, type := 3, pos := "more.go:27", after := #[{ on := 50, ground := Ground.data }, { on := 52, ground := Ground.data }, { on := 37, ground := Ground.guard }], guard := some (37, false) }) (v := undef) rfl (by kernel_rfl) (by kernel_rfl) (by kernel_rfl) (fun _ _ _ h => h) (Or.inr ⟨by rfl, rfl⟩) (by assumption) ?_
        (try simp only [Act.put, List.setIfInBounds_toArray, List.set_cons_zero, List.set_cons_succ])
        refine wpAnyH_take (i := 54) (oi := { dst := some 125, op := Op.binOp BinOp.add 3 (Operand.tmp 124) (Operand.const (Value.int IntKind.i64 1)) 3, type := 3, pos := "more.go:27", after := #[{ on := 53, ground := Ground.data }, { on := 37, ground := Ground.guard }], guard := some (37, false) }) (v := undef) rfl (by kernel_rfl) (by kernel_rfl) (by kernel_rfl) (fun _ _ _ h => h) (Or.inr ⟨by rfl, rfl⟩) (by assumption) ?_
        (try simp only [Act.put, List.setIfInBounds_toArray, List.set_cons_zero, List.set_cons_succ])
        refine wpAnyH_take (i := 55) (oi := { dst := some 126, op := Op.binOp BinOp.neq 3 (Operand.tmp 113) (Operand.tmp 125) 3, type := 4, pos := "more.go:27", after := #[{ on := 42, ground := Ground.data }, { on := 54, ground := Ground.data }, { on := 37, ground := Ground.guard }], guard := some (37, false) }) (v := undef) rfl (by kernel_rfl) (by kernel_rfl) (by kernel_rfl) (fun _ _ _ h => h) (Or.inr ⟨by rfl, rfl⟩) (by assumption) ?_
        (try simp only [Act.put, List.setIfInBounds_toArray, List.set_cons_zero, List.set_cons_succ])
        refine wpAnyH_take (i := 56) (oi := { dst := some 127, op := Op.pick (Operand.tmp 108) (Operand.const (Value.bool true)) (Operand.tmp 126), type := 4, pos := "more.go:27", after := #[{ on := 37, ground := Ground.data }, { on := 55, ground := Ground.data }, { on := 22, ground := Ground.guard }], guard := some (22, true) }) (v := undef) rfl (by kernel_rfl) (by kernel_rfl) (by kernel_rfl) (fun _ _ _ h => h) (Or.inr ⟨by rfl, rfl⟩) (by assumption) ?_
        (try simp only [Act.put, List.setIfInBounds_toArray, List.set_cons_zero, List.set_cons_succ])
        refine wpAnyH_take (i := 57) (oi := { dst := some 128, op := Op.pick (Operand.tmp 93) (Operand.tmp 127) (Operand.const (Value.bool false)), type := 4, pos := "more.go:27", after := #[{ on := 22, ground := Ground.data }, { on := 56, ground := Ground.data }, { on := 17, ground := Ground.guard }], guard := some (17, false) }) (v := ?_) rfl (by kernel_rfl) (by kernel_rfl) (by kernel_rfl) (fun _ _ _ h => h) (Or.inl ⟨by rfl, ?hyA57⟩) (by assumption) ?_
        case hyA57 => (intro w hSw; (try dsimp only at hSw); go_simp; try with_reducible rfl)
        (try simp only [Act.put, List.setIfInBounds_toArray, List.set_cons_zero, List.set_cons_succ])
        refine wpAnyH_take (i := 58) (oi := { dst := some 129, op := Op.pick (Operand.tmp 88) (Operand.const (Value.bool true)) (Operand.tmp 128), type := 4, pos := "more.go:27", after := #[{ on := 17, ground := Ground.data }, { on := 57, ground := Ground.data }], guard := none }) (v := ?_) rfl (by kernel_rfl) (by kernel_rfl) (by kernel_rfl) (fun _ _ _ h => h) (Or.inl ⟨by rfl, ?hyA58⟩) (by assumption) ?_
        case hyA58 => (intro w hSw; (try dsimp only at hSw); go_simp; try with_reducible rfl)
        (try simp only [Act.put, List.setIfInBounds_toArray, List.set_cons_zero, List.set_cons_succ])
        refine wpAnyH_done (by kernel_rfl) ?_ _
        go_wp2
        go_roundw
        case rel => exact ⟨k + 1, by omega, by go_num, next_trans s0 (next_trans hb hb')⟩
        case measure => simp [intOf]; omega
      · obtain ⟨j, hkj⟩ : ∃ j, k = Mx + j := ⟨k - Mx, by omega⟩
        have HKj : Hid (k = Mx + j) := hkj
        have hxi : ¬ (k : Int) < (Mx : Int) := by omega
        have hxd : decide ((k : Int) < (Mx : Int)) = false := decide_eq_false (by omega)
        have hxd2 : decide (k < Mx) = false := decide_eq_false (by omega)
        have hxg : decide ((Mx : Int) ≤ (k : Int)) = true := decide_eq_true (by omega)
        have hxg2 : decide (Mx ≤ k) = true := decide_eq_true (by omega)
        have hsub : (k : Int) - (Mx : Int) = (j : Int) := by omega
        have hj : j < My := by omega
        have hji : (j : Int) < (My : Int) := by omega
        have hj0 : (0 : Int) ≤ (j : Int) := by omega
        have hwj : IntKind.i64.wrap (j : Int) = (j : Int) := wrap_in5 (by omega) (by omega)
        clear hkj
        obtain ⟨y, HG⟩ : ∃ y, Hid (Y[j]? = some y) := ⟨_, List.getElem?_eq_getElem (by rw [HMy.out]; exact hj)⟩
        have HGj : Hid (J[k]? = some (mapN (· + (n + 1)) y)) := by
          rw [Hid, HJ.out, HKj.out, List.getElem?_append_right (by rw [HMx.out]; omega), HMx.out, show Mx + j - Mx = j by omega, mapL_map, List.getElem?_map, HG.out]; rfl
        obtain ⟨b1, o1, ka1, kc1, rfl, hA1⟩ := HK.out.at HGj.out
        obtain ⟨b2, o2, ka2, kc2, rfl, hA2⟩ := HKy.out.at HG.out
        have hyb := (HBy.out.2.2.2.2 y (List.mem_of_getElem? HG.out)).cnt
        have hjb := (HBj.out.2.2.2.2 _ (List.mem_of_getElem? HGj.out)).cnt
        have hs := sim_map (· + (n + 1)) y
        have hpos : y.a < n' := by
          have := readQ_pos l' y (by rw [HR'.out]; exact List.mem_of_getElem? HG.out)
          rw [HL'.out] at this; exact this
        obtain ⟨yk, ya, yi, ys, yl⟩ := y
        rw [mapN_mk] at hA1 hjb hs
        simp only at hpos
        obtain ⟨GL, HGL⟩ : ∃ GL, Hid (mapL (· + (n + 1)) yl = GL) := ⟨_, rfl⟩
        have hGl : yl.length = GL.length := by rw [← HGL.out, mapL_len]
        rw [HGL.out] at hA1 hjb hs
        have HC0 : Hid (BackC w4 yk yi ((ya + (n + 1) : Nat) : Int) (ya : Int) (baL ys) GL yl GL.length ka1 kc1 ka2 kc2) :=
          backC yk yi (ya + (n + 1)) ya ys GL yl ka1 ka2 kc1 kc2 hs hGl hA1.hc hA2.hc hjb hyb hA1.kids hA2.kids
        obtain ⟨x0, x1', x2', x3, x4⟩ : _ ∧ _ ∧ _ ∧ _ ∧ _ := ⟨hA1.c0, hA1.c1, hA1.c2, hA1.c3, hA1.c4⟩
        obtain ⟨e0, e1, e2, e3, e4⟩ : _ ∧ _ ∧ _ ∧ _ ∧ _ := ⟨hA2.c0, hA2.c1, hA2.c2, hA2.c3, hA2.c4⟩
        have HKd : Hid (∀ w', Below w4.heap.size w4 w' → IsNds w' anyB ka2 yl) := fun w' h => hA2.kids.next h
        have HKc : Hid (GL.length ≤ kc2) := by rw [Hid, ← hGl]; exact hA2.hc
        simp only at x0 x1' x2' x3 x4 e0 e1 e2 e3 e4
        rw [hGl] at e4
        obtain ⟨Z, HZ⟩ : ∃ Z, Hid (baL ys = Z) := ⟨_, rfl⟩
        obtain ⟨A, HA⟩ : ∃ A : Int, Hid ((ya : Int) = A) := ⟨_, rfl⟩
        obtain ⟨A2, HA2⟩ : ∃ A2 : Int, Hid (((ya + (n + 1) : Nat) : Int) = A2) := ⟨_, rfl⟩
        have hAe : A2 = A + (n : Int) + 1 := by rw [← HA2.out, ← HA.out]; omega
        have hAb : 0 ≤ A ∧ A ≤ 1000 := by rw [← HA.out]; omega
        obtain ⟨M, HM⟩ : ∃ M, Hid (GL.length = M) := ⟨_, rfl⟩
        have HCo : Hid (∀ w', Below w4.heap.size w4 w' → Calls Tryz.prog 16 #[.agg #[.int .i64 (yk), .int .i64 (A2), .int .i64 (yi), .string (Z), .slice ka1 M kc1]] w' fun e w2 => (∃ ao' cap', e = .returned (.agg #[.int .i64 (yk), .int .i64 (A2), .int .i64 (yi), .string (Z), .slice ao' M cap']) ∧ M ≤ cap' ∧ IsNds w2 anyB ao' GL) ∧ Below w'.heap.size w' w2) := by
          rw [← HZ.out, ← HA2.out, ← HM.out]; exact HC0.out.of1
        have HCs : Hid (∀ ao1 cap1 w', Below w4.heap.size w4 w' → M ≤ cap1 → IsNds w' anyB ao1 GL → Calls Tryz.prog 25 #[.agg #[.int .i64 (yk), .int .i64 (A2), .int .i64 (yi), .string (Z), .slice ao1 M cap1], .agg #[.int .i64 (yk), .int .i64 (A), .int .i64 (yi), .string (Z), .slice ka2 M kc2]] w' fun e w2 => e = .returned (.bool true) ∧ Below w'.heap.size w' w2) := fun ao1 cap1 w' g1 g2 g3 => by
          have := HC0.out.rsame ao1 cap1 ka2 kc2 w' g1 (by rw [HM.out]; exact g2) HKc.out g3 (HKd.out w' g1)
          rw [HZ.out, HA2.out, HA.out, HM.out] at this; exact this
        rw [HZ.out] at x3 e3
        rw [HA2.out] at x1'
        rw [HA.out] at e1
        rw [HM.out] at x4 e4
        have p0 := keep_cell HW.out x0
        have p1 := keep_cell HW.out x1'
        have p2 := keep_cell HW.out x2'
        have p3 := keep_cell HW.out x3
        have p4 := keep_cell HW.out x4
        have q0 := keep_cell HW.out e0
        have q1 := keep_cell HW.out e1
        have q2 := keep_cell HW.out e2
        have q3 := keep_cell HW.out e3
        have q4 := keep_cell HW.out e4
        subst hAe
        have hA0 := hAb.1
        have hA1' := hAb.2
        have hwa : IntKind.i64.wrap (A + (n : Int)) = A + (n : Int) := wrap_in5 (by omega) (by omega)
        have hwb : IntKind.i64.wrap (A + (n : Int) + 1) = A + (n : Int) + 1 := wrap_in5 (by omega) (by omega)
        clear x0 x1' x2' x3 x4 e0 e1 e2 e3 e4 HC0 hA1 hA2 hyb hjb hs HZ HA HA2 HM HG HGj hGl HGL HKd HKc hAb hpos
        go_wp2_with fail
        refine wp_region_held_drew (S := (fun w' => w'.cell? ⟨b1, o1 + k * 5, none⟩ = some (.int .i64 yk) ∧ w'.cell? ⟨b1, o1 + k * 5 + 1, none⟩ = some (.int .i64 (A + (n : Int) + 1)) ∧ w'.cell? ⟨b1, o1 + k * 5 + 2, none⟩ = some (.int .i64 yi) ∧ w'.cell? ⟨b1, o1 + k * 5 + 3, none⟩ = some (.string Z) ∧ w'.cell? ⟨b1, o1 + k * 5 + 4, none⟩ = some (.slice ka1 M kc1) ∧ w'.cell? ⟨b2, o2 + j * 5, none⟩ = some (.int .i64 yk) ∧ w'.cell? ⟨b2, o2 + j * 5 + 1, none⟩ = some (.int .i64 A) ∧ w'.cell? ⟨b2, o2 + j * 5 + 2, none⟩ = some (.int .i64 yi) ∧ w'.cell? ⟨b2, o2 + j * 5 + 3, none⟩ = some (.string Z) ∧ w'.cell? ⟨b2, o2 + j * 5 + 4, none⟩ = some (.slice ka2 M kc2) ∧ Below w4.heap.size w4 w' ∧ w4.heap.size ≤ w'.heap.size)) (by kernel_rfl) ?_ (fun hHeld => ?_)
        · exact ⟨p0, p1, p2, p3, p4, q0, q1, q2, q3, q4, s0, s1⟩
        refine wpAnyH_take (i := 0) (oi := { dst := some 71, op := Op.move (Operand.tmp 12), type := 3, pos := "more.go:27", after := #[], guard := none }) (v := ?_) rfl (by kernel_rfl) (by kernel_rfl) (by kernel_rfl) (fun _ _ _ h => h) (Or.inl ⟨by rfl, ?hyB0⟩) (by assumption) ?_
        case hyB0 => (intro w hSw; (try dsimp only at hSw); go_simp; try with_reducible rfl)
        (try simp only [Act.put, List.setIfInBounds_toArray, List.set_cons_zero, List.set_cons_succ])
        refine wpAnyH_take (i := 1) (oi := { dst := some 72, op := Op.move (Operand.tmp 5), type := 29, pos := "more.go:27", after := #[], guard := none }) (v := ?_) rfl (by kernel_rfl) (by kernel_rfl) (by kernel_rfl) (fun _ _ _ h => h) (Or.inl ⟨by rfl, ?hyB1⟩) (by assumption) ?_
        case hyB1 => (intro w hSw; (try dsimp only at hSw); go_simp; try with_reducible rfl)
        (try simp only [Act.put, List.setIfInBounds_toArray, List.set_cons_zero, List.set_cons_succ])
        refine wpAnyH_take (i := 2) (oi := { dst := some 73, op := Op.call { callee := Callee.builtin Builtin.len, args := #[Operand.tmp 72], argTypes := #[29] }, type := 3, pos := "more.go:27", after := #[{ on := 1, ground := Ground.data }], guard := none }) (v := ?_) rfl (by kernel_rfl) (by kernel_rfl) (by kernel_rfl) (fun _ _ _ h => h) (Or.inl ⟨by rfl, ?hyB2⟩) (by assumption) ?_
        case hyB2 => (intro w hSw; (try dsimp only at hSw); go_simp; try with_reducible rfl)
        (try simp only [Act.put, List.setIfInBounds_toArray, List.set_cons_zero, List.set_cons_succ])
        refine wpAnyH_take (i := 3) (oi := { dst := some 74, op := Op.binOp BinOp.lss 3 (Operand.tmp 71) (Operand.tmp 73) 3, type := 4, pos := "more.go:27", after := #[{ on := 0, ground := Ground.data }, { on := 2, ground := Ground.data }], guard := none }) (v := ?_) rfl (by kernel_rfl) (by kernel_rfl) (by kernel_rfl) (fun _ _ _ h => h) (Or.inl ⟨by rfl, ?hyB3⟩) (by assumption) ?_
        case hyB3 => (intro w hSw; (try dsimp only at hSw); go_simp; try with_reducible rfl)
        (try simp only [Act.put, List.setIfInBounds_toArray, List.set_cons_zero, List.set_cons_succ])
        refine wpAnyH_take (i := 4) (oi := { dst := some 75, op := Op.move (Operand.tmp 74), type := 4, pos := "more.go:27", after := #[{ on := 3, ground := Ground.data }], guard := none }) (v := ?_) rfl (by kernel_rfl) (by kernel_rfl) (by kernel_rfl) (fun _ _ _ h => h) (Or.inl ⟨by rfl, ?hyB4⟩) (by assumption) ?_
        case hyB4 => (intro w hSw; (try dsimp only at hSw); go_simp; try with_reducible rfl)
        (try simp only [Act.put, List.setIfInBounds_toArray, List.set_cons_zero, List.set_cons_succ])
        refine wpAnyH_take (i := 5) (oi := { dst := some 76, op := Op.move (Operand.tmp 10), type := 24, pos := "more.go:27", after := #[{ on := 4, ground := Ground.guard }], guard := some (4, true) }) (v := undef) rfl (by kernel_rfl) (by kernel_rfl) (by kernel_rfl) (fun _ _ _ h => h) (Or.inr ⟨by rfl, rfl⟩) (by assumption) ?_
        (try simp only [Act.put, List.setIfInBounds_toArray, List.set_cons_zero, List.set_cons_succ])
        refine wpAnyH_take (i := 6) (oi := { dst := some 77, op := Op.move (Operand.tmp 12), type := 3, pos := "more.go:27", after := #[{ on := 4, ground := Ground.guard }], guard := some (4, true) }) (v := undef) rfl (by kernel_rfl) (by kernel_rfl) (by kernel_rfl) (fun _ _ _ h => h) (Or.inr ⟨by rfl, rfl⟩) (by assumption) ?_
        (try simp only [Act.put, List.setIfInBounds_toArray, List.set_cons_zero, List.set_cons_succ])
        refine wpAnyH_take (i := 7) (oi := { dst := some 78, op := Op.indexAddr 24 (Operand.tmp 76) (Operand.tmp 77), type := 0, pos := "more.go:27", after := #[{ on := 5, ground := Ground.data }, { on := 6, ground := Ground.data }, { on := 4, ground := Ground.guard }], guard := some (4, true) }) (v := undef) rfl (by kernel_rfl) (by kernel_rfl) (by kernel_rfl) (fun _ _ _ h => h) (Or.inr ⟨by rfl, rfl⟩) (by assumption) ?_
        (try simp only [Act.put, List.setIfInBounds_toArray, List.set_cons_zero, List.set_cons_succ])
        refine wpAnyH_take (i := 8) (oi := { dst := some 79, op := Op.load 41 (Operand.tmp 78), type := 41, pos := "more.go:27", after := #[{ on := 7, ground := Ground.data }, { on := 4, ground := Ground.guard }], guard := some (4, true) }) (v := undef) rfl (by kernel_rfl) (by kernel_rfl) (by kernel_rfl) (fun _ _ _ h => h) (Or.inr ⟨by rfl, rfl⟩) (by assumption) ?_
        (try simp only [Act.put, List.setIfInBounds_toArray, List.set_cons_zero, List.set_cons_succ])
        refine wpAnyH_take (i := 9) (oi := { dst := some 80, op := Op.call { callee := Callee.value (Operand.func 16), args := #[Operand.tmp 79], argTypes := #[41] }, type := 44, pos := "more.go:27", after := #[{ on := 8, ground := Ground.data }, { on := 4, ground := Ground.chain }, { on := 4, ground := Ground.guard }], guard := some (4, true) }) (v := undef) rfl (by kernel_rfl) (by kernel_rfl) (by kernel_rfl) (fun _ _ _ h => h) (Or.inr ⟨by rfl, rfl⟩) (by assumption) ?_
        (try simp only [Act.put, List.setIfInBounds_toArray, List.set_cons_zero, List.set_cons_succ])
        refine wpAnyH_take (i := 10) (oi := { dst := some 81, op := Op.move (Operand.tmp 5), type := 29, pos := "more.go:27", after := #[{ on := 4, ground := Ground.guard }], guard := some (4, true) }) (v := undef) rfl (by kernel_rfl) (by kernel_rfl) (by kernel_rfl) (fun _ _ _ h => h) (Or.inr ⟨by rfl, rfl⟩) (by assumption) ?_
        (try simp only [Act.put, List.setIfInBounds_toArray, List.set_cons_zero, List.set_cons_succ])
        refine wpAnyH_take (i := 11) (oi := { dst := some 82, op := Op.move (Operand.tmp 12), type := 3, pos := "more.go:27", after := #[{ on := 4, ground := Ground.guard }], guard := some (4, true) }) (v := undef) rfl (by kernel_rfl) (by kernel_rfl) (by kernel_rfl) (fun _ _ _ h => h) (Or.inr ⟨by rfl, rfl⟩) (by assumption) ?_
        (try simp only [Act.put, List.setIfInBounds_toArray, List.set_cons_zero, List.set_cons_succ])
        refine wpAnyH_take (i := 12) (oi := { dst := some 83, op := Op.indexAddr 29 (Operand.tmp 81) (Operand.tmp 82), type := 0, pos := "more.go:27", after := #[{ on := 10, ground := Ground.data }, { on := 11, ground := Ground.data }, { on := 4, ground := Ground.guard }], guard := some (4, true) }) (v := undef) rfl (by kernel_rfl) (by kernel_rfl) (by kernel_rfl) (fun _ _ _ h => h) (Or.inr ⟨by rfl, rfl⟩) (by assumption) ?_
        (try simp only [Act.put, List.setIfInBounds_toArray, List.set_cons_zero, List.set_cons_succ])
        refine wpAnyH_take (i := 13) (oi := { dst := some 84, op := Op.load 44 (Operand.tmp 83), type := 44, pos := "more.go:27", after := #[{ on := 12, ground := Ground.data }, { on := 4, ground := Ground.guard }], guard := some (4, true) }) (v := undef) rfl (by kernel_rfl) (by kernel_rfl) (by kernel_rfl) (fun _ _ _ h => h) (Or.inr ⟨by rfl, rfl⟩) (by assumption) ?_
        (try simp only [Act.put, List.setIfInBounds_toArray, List.set_cons_zero, List.set_cons_succ])
        refine wpAnyH_take (i := 14) (oi := { dst := some 85, op := Op.call { callee := Callee.value (Operand.func 15), args := #[Operand.tmp 80, Operand.tmp 84], argTypes := #[44, 44] }, type := 4, pos := "more.go:27", after := #[{ on := 9, ground := Ground.data }, { on := 13, ground := Ground.data }, { on := 9, ground := Ground.chain }, { on := 4, ground := Ground.guard }], guard := some (4, true) }) (v := undef) rfl (by kernel_rfl) (by kernel_rfl) (by kernel_rfl) (fun _ _ _ h => h) (Or.inr ⟨by rfl, rfl⟩) (by assumption) ?_
        (try simp only [Act.put, List.setIfInBounds_toArray, List.set_cons_zero, List.set_cons_succ])
        refine wpAnyH_take (i := 15) (oi := { dst := some 86, op := Op.unOp UnOp.not 4 (Operand.tmp 85), type := 4, pos := "more.go:27", after := #[{ on := 14, ground := Ground.data }, { on := 4, ground := Ground.guard }], guard := some (4, true) }) (v := undef) rfl (by kernel_rfl) (by kernel_rfl) (by kernel_rfl) (fun _ _ _ h => h) (Or.inr ⟨by rfl, rfl⟩) (by assumption) ?_
        (try simp only [Act.put, List.setIfInBounds_toArray, List.set_cons_zero, List.set_cons_succ])
        refine wpAnyH_take (i := 16) (oi := { dst := some 87, op := Op.pick (Operand.tmp 75) (Operand.tmp 86) (Operand.const (Value.bool false)), type := 4, pos := "more.go:27", after := #[{ on := 4, ground := Ground.data }, { on := 15, ground := Ground.data }], guard := none }) (v := ?_) rfl (by kernel_rfl) (by kernel_rfl) (by kernel_rfl) (fun _ _ _ h => h) (Or.inl ⟨by rfl, ?hyB16⟩) (by assumption) ?_
        case hyB16 => (intro w hSw; (try dsimp only at hSw); go_simp; try with_reducible rfl)
        (try simp only [Act.put, List.setIfInBounds_toArray, List.set_cons_zero, List.set_cons_succ])
        refine wpAnyH_take (i := 17) (oi := { dst := some 88, op := Op.move (Operand.tmp 87), type := 4, pos := "more.go:27", after := #[{ on := 16, ground := Ground.data }, { on := 14, ground := Ground.chain }], guard := none }) (v := ?_) rfl (by kernel_rfl) (by kernel_rfl) (by kernel_rfl) (fun _ _ _ h => h) (Or.inl ⟨by rfl, ?hyB17⟩) (by assumption) ?_
        case hyB17 => (intro w hSw; (try dsimp only at hSw); go_simp; try with_reducible rfl)
        (try simp only [Act.put, List.setIfInBounds_toArray, List.set_cons_zero, List.set_cons_succ])
        refine wpAnyH_take (i := 18) (oi := { dst := some 89, op := Op.move (Operand.tmp 12), type := 3, pos := "more.go:27", after := #[{ on := 17, ground := Ground.guard }], guard := some (17, false) }) (v := ?_) rfl (by kernel_rfl) (by kernel_rfl) (by kernel_rfl) (fun _ _ _ h => h) (Or.inl ⟨by rfl, ?hyB18⟩) (by assumption) ?_
        case hyB18 => (intro w hSw; (try dsimp only at hSw); go_simp; try with_reducible rfl)
        (try simp only [Act.put, List.setIfInBounds_toArray, List.set_cons_zero, List.set_cons_succ])
        refine wpAnyH_take (i := 19) (oi := { dst := some 90, op := Op.move (Operand.tmp 5), type := 29, pos := "more.go:27", after := #[{ on := 17, ground := Ground.guard }], guard := some (17, false) }) (v := ?_) rfl (by kernel_rfl) (by kernel_rfl) (by kernel_rfl) (fun _ _ _ h => h) (Or.inl ⟨by rfl, ?hyB19⟩) (by assumption) ?_
        case hyB19 => (intro w hSw; (try dsimp only at hSw); go_simp; try with_reducible rfl)
        (try simp only [Act.put, List.setIfInBounds_toArray, List.set_cons_zero, List.set_cons_succ])
        refine wpAnyH_take (i := 20) (oi := { dst := some 91, op := Op.call { callee := Callee.builtin Builtin.len, args := #[Operand.tmp 90], argTypes := #[29] }, type := 3, pos := "more.go:27", after := #[{ on := 19, ground := Ground.data }, { on := 17, ground := Ground.guard }], guard := some (17, false) }) (v := ?_) rfl (by kernel_rfl) (by kernel_rfl) (by kernel_rfl) (fun _ _ _ h => h) (Or.inl ⟨by rfl, ?hyB20⟩) (by assumption) ?_
        case hyB20 => (intro w hSw; (try dsimp only at hSw); go_simp; try with_reducible rfl)
        (try simp only [Act.put, List.setIfInBounds_toArray, List.set_cons_zero, List.set_cons_succ])
        refine wpAnyH_take (i := 21) (oi := { dst := some 92, op := Op.binOp BinOp.geq 3 (Operand.tmp 89) (Operand.tmp 91) 3, type := 4, pos := "more.go:27", after := #[{ on := 18, ground := Ground.data }, { on := 20, ground := Ground.data }, { on := 17, ground := Ground.guard }], guard := some (17, false) }) (v := ?_) rfl (by kernel_rfl) (by kernel_rfl) (by kernel_rfl) (fun _ _ _ h => h) (Or.inl ⟨by rfl, ?hyB21⟩) (by assumption) ?_
        case hyB21 => (intro w hSw; (try dsimp only at hSw); go_simp; try with_reducible rfl)
        (try simp only [Act.put, List.setIfInBounds_toArray, List.set_cons_zero, List.set_cons_succ])
        refine wpAnyH_take (i := 22) (oi := { dst := some 93, op := Op.move (Operand.tmp 92), type := 4, pos := "more.go:27", after := #[{ on := 21, ground := Ground.data }, { on := 17, ground := Ground.chain }, { on := 17, ground := Ground.guard }], guard := some (17, false) }) (v := ?_) rfl (by kernel_rfl) (by kernel_rfl) (by kernel_rfl) (fun _ _ _ h => h) (Or.inl ⟨by rfl, ?hyB22⟩) (by assumption) ?_
        case hyB22 => (intro w hSw; (try dsimp only at hSw); go_simp; try with_reducible rfl)
        (try simp only [Act.put, List.setIfInBounds_toArray, List.set_cons_zero, List.set_cons_succ])
        refine wpAnyH_take (i := 23) (oi := { dst := some 94, op := Op.move (Operand.tmp 10), type := 24, pos := "more.go:27", after := #[{ on := 22, ground := Ground.guard }], guard := some (22, true) }) (v := ?_) rfl (by kernel_rfl) (by kernel_rfl) (by kernel_rfl) (fun _ _ _ h => h) (Or.inl ⟨by rfl, ?hyB23⟩) (by assumption) ?_
        case hyB23 => (intro w hSw; (try dsimp only at hSw); go_simp; try with_reducible rfl)
        (try simp only [Act.put, List.setIfInBounds_toArray, List.set_cons_zero, List.set_cons_succ])
        refine wpAnyH_take (i := 24) (oi := { dst := some 95, op := Op.move (Operand.tmp 12), type := 3, pos := "more.go:27", after := #[{ on := 22, ground := Ground.guard }], guard := some (22, true) }) (v := ?_) rfl (by kernel_rfl) (by kernel_rfl) (by kernel_rfl) (fun _ _ _ h => h) (Or.inl ⟨by rfl, ?hyB24⟩) (by assumption) ?_
        case hyB24 => (intro w hSw; (try dsimp only at hSw); go_simp; try with_reducible rfl)
        (try simp only [Act.put, List.setIfInBounds_toArray, List.set_cons_zero, List.set_cons_succ])
        refine wpAnyH_take (i := 25) (oi := { dst := some 96, op := Op.indexAddr 24 (Operand.tmp 94) (Operand.tmp 95), type := 0, pos := "more.go:27", after := #[{ on := 23, ground := Ground.data }, { on := 24, ground := Ground.data }, { on := 22, ground := Ground.guard }], guard := some (22, true) }) (v := ?_) rfl (by kernel_rfl) (by kernel_rfl) (by kernel_rfl) (fun _ _ _ h => h) (Or.inl ⟨by rfl, ?hyB25⟩) (by assumption) ?_
        case hyB25 => (intro w hSw; (try dsimp only at hSw); go_simp; try with_reducible rfl)
        (try simp only [Act.put, List.setIfInBounds_toArray, List.set_cons_zero, List.set_cons_succ])
        refine wpAnyH_take (i := 26) (oi := { dst := some 97, op := Op.load 41 (Operand.tmp 96), type := 41, pos := "more.go:27", after := #[{ on := 25, ground := Ground.data }, { on := 22, ground := Ground.guard }], guard := some (22, true) }) (v := ?_) rfl (by kernel_rfl) (by kernel_rfl) (by kernel_rfl) (fun _ _ _ h => h) (Or.inl ⟨by rfl, ?hyB26⟩) (by assumption) ?_
        case hyB26 => (intro w hSw; (try dsimp only at hSw); go_simp; try with_reducible rfl)
        (try simp only [Act.put, List.setIfInBounds_toArray, List.set_cons_zero, List.set_cons_succ])
        refine wpAnyH_take (i := 28) (oi := { dst := some 99, op := Op.move (Operand.tmp 7), type := 29, pos := "more.go:27", after := #[{ on := 22, ground := Ground.guard }], guard := some (22, true) }) (v := ?_) rfl (by kernel_rfl) (by kernel_rfl) (by kernel_rfl) (fun _ _ _ h => h) (Or.inl ⟨by rfl, ?hyB28⟩) (by assumption) ?_
        case hyB28 => (intro w hSw; (try dsimp only at hSw); go_simp; try with_reducible rfl)
        (try simp only [Act.put, List.setIfInBounds_toArray, List.set_cons_zero, List.set_cons_succ])
        refine wpAnyH_take (i := 29) (oi := { dst := some 100, op := Op.move (Operand.tmp 12), type := 3, pos := "more.go:27", after := #[{ on := 22, ground := Ground.guard }], guard := some (22, true) }) (v := ?_) rfl (by kernel_rfl) (by kernel_rfl) (by kernel_rfl) (fun _ _ _ h => h) (Or.inl ⟨by rfl, ?hyB29⟩) (by assumption) ?_
        case hyB29 => (intro w hSw; (try dsimp only at hSw); go_simp; try with_reducible rfl)
        (try simp only [Act.put, List.setIfInBounds_toArray, List.set_cons_zero, List.set_cons_succ])
        refine wpAnyH_take (i := 30) (oi := { dst := some 101, op := Op.move (Operand.tmp 5), type := 29, pos := "more.go:27", after := #[{ on := 22, ground := Ground.guard }], guard := some (22, true) }) (v := ?_) rfl (by kernel_rfl) (by kernel_rfl) (by kernel_rfl) (fun _ _ _ h => h) (Or.inl ⟨by rfl, ?hyB30⟩) (by assumption) ?_
        case hyB30 => (intro w hSw; (try dsimp only at hSw); go_simp; try with_reducible rfl)
        (try simp only [Act.put, List.setIfInBounds_toArray, List.set_cons_zero, List.set_cons_succ])
        refine wpAnyH_take (i := 31) (oi := { dst := some 102, op := Op.call { callee := Callee.builtin Builtin.len, args := #[Operand.tmp 101], argTypes := #[29] }, type := 3, pos := "more.go:27", after := #[{ on := 30, ground := Ground.data }, { on := 22, ground := Ground.guard }], guard := some (22, true) }) (v := ?_) rfl (by kernel_rfl) (by kernel_rfl) (by kernel_rfl) (fun _ _ _ h => h) (Or.inl ⟨by rfl, ?hyB31⟩) (by assumption) ?_
        case hyB31 => (intro w hSw; (try dsimp only at hSw); go_simp; try with_reducible rfl)
        (try simp only [Act.put, List.setIfInBounds_toArray, List.set_cons_zero, List.set_cons_succ])
        refine wpAnyH_take (i := 32) (oi := { dst := some 103, op := Op.binOp BinOp.sub 3 (Operand.tmp 100) (Operand.tmp 102) 3, type := 3, pos := "more.go:27", after := #[{ on := 29, ground := Ground.data }, { on := 31, ground := Ground.data }, { on := 22, ground := Ground.guard }], guard := some (22, true) }) (v := ?_) rfl (by kernel_rfl) (by kernel_rfl) (by kernel_rfl) (fun _ _ _ h => h) (Or.inl ⟨by rfl, ?hyB32⟩) (by assumption) ?_
        case hyB32 => (intro w hSw; (try dsimp only at hSw); go_simp; try with_reducible rfl)
        (try simp only [Act.put, List.setIfInBounds_toArray, List.set_cons_zero, List.set_cons_succ])
        refine wpAnyH_take (i := 33) (oi := { dst := some 104, op := Op.indexAddr 29 (Operand.tmp 99) (Operand.tmp 103), type := 0, pos := "more.go:27", after := #[{ on := 28, ground := Ground.data }, { on := 32, ground := Ground.data }, { on := 22, ground := Ground.guard }], guard := some (22, true) }) (v := ?_) rfl (by kernel_rfl) (by kernel_rfl) (by kernel_rfl) (fun _ _ _ h => h) (Or.inl ⟨by rfl, ?hyB33⟩) (by assumption) ?_
        case hyB33 => (intro w hSw; (try dsimp only at hSw); go_simp; try with_reducible rfl)
        (try simp only [Act.put, List.setIfInBounds_toArray, List.set_cons_zero, List.set_cons_succ])
        refine wpAnyH_take (i := 34) (oi := { dst := some 105, op := Op.load 44 (Operand.tmp 104), type := 44, pos := "more.go:27", after := #[{ on := 33, ground := Ground.data }, { on := 22, ground := Ground.guard }], guard := some (22, true) }) (v := ?_) rfl (by kernel_rfl) (by kernel_rfl) (by kernel_rfl) (fun _ _ _ h => h) (Or.inl ⟨by rfl, ?hyB34⟩) (by assumption) ?_
        case hyB34 => (intro w hSw; (try dsimp only at hSw); go_simp; try with_reducible rfl)
        (try simp only [Act.put, List.setIfInBounds_toArray, List.set_cons_zero, List.set_cons_succ])
        refine wpAnyH_ready (rs := [27]) (by kernel_rfl) (by simp) ?_
        refine AllReadyH.cons (o := { dst := some 98, op := Op.call { callee := Callee.value (Operand.func 16), args := #[Operand.tmp 97], argTypes := #[41] }, type := 44, pos := "more.go:27", after := #[{ on := 26, ground := Ground.data }, { on := 22, ground := Ground.chain }, { on := 22, ground := Ground.guard }], guard := some (22, true) }) rfl (fun K hK => ?_) AllReadyH.nil
        go_simp
        have hH2 := hHeld
        obtain ⟨_, _, _, _, _, _, _, _, _, _, hbl, _⟩ := hH2
        with_reducible refine (HCo.out _ hbl).mono ?_
        rintro e w' ⟨⟨ao', cap', rfl, hcap', hkid'⟩, hb⟩
        refine hK.out _ _ ?_ (fun hHeld2 => ?_)
        · (((try dsimp only); go_split_ands; refine ⟨?_, ?_, ?_, ?_, ?_, ?_, ?_, ?_, ?_, ?_, ?_, ?_⟩ <;> first | assumption | exact keep_cell (by assumption) (by assumption) | exact below_next (by assumption) (by assumption) (by assumption) | exact le_next (by assumption) (by assumption)))
        clear hK K
        (try simp only [Act.put, List.setIfInBounds_toArray, List.set_cons_zero, List.set_cons_succ])
        refine wpAnyH_ready (rs := [35]) (by kernel_rfl) (by simp) ?_
        refine AllReadyH.cons (o := { dst := some 106, op := Op.call { callee := Callee.value (Operand.func 25), args := #[Operand.tmp 98, Operand.tmp 105], argTypes := #[44, 44] }, type := 4, pos := "more.go:27", after := #[{ on := 27, ground := Ground.data }, { on := 34, ground := Ground.data }, { on := 27, ground := Ground.chain }, { on := 22, ground := Ground.guard }], guard := some (22, true) }) rfl (fun K hK => ?_) AllReadyH.nil
        go_simp
        have hH2 := hHeld2
        obtain ⟨_, _, _, _, _, _, _, _, _, _, hbl2, _⟩ := hH2
        with_reducible refine (HCs.out _ _ _ hbl2 hcap' hkid').mono ?_
        rintro e w'' ⟨rfl, hb'⟩
        refine hK.out _ _ ?_ (fun hHeld3 => ?_)
        · (((try dsimp only); go_split_ands; refine ⟨?_, ?_, ?_, ?_, ?_, ?_, ?_, ?_, ?_, ?_, ?_, ?_⟩ <;> first | assumption | exact keep_cell (by assumption) (by assumption) | exact below_next (by assumption) (by assumption) (by assumption) | exact le_next (by assumption) (by assumption)))
        clear hK K
        (try simp only [Act.put, List.setIfInBounds_toArray, List.set_cons_zero, List.set_cons_succ])
        refine wpAnyH_take (i := 36) (oi := { dst := some 107, op := Op.unOp UnOp.not 4 (Operand.tmp 106), type := 4, pos := "more.go:27", after := #[{ on := 35, ground := Ground.data }, { on := 22, ground := Ground.guard }], guard := some (22, true) }) (v := ?_) rfl (by kernel_rfl) (by kernel_rfl) (by kernel_rfl) (fun _ _ _ h => h) (Or.inl ⟨by rfl, ?hyB36⟩) (by assumption) ?_
        case hyB36 => (intro w hSw; (try dsimp only at hSw); go_simp; try with_reducible rfl)
        (try simp only [Act.put, List.setIfInBounds_toArray, List.set_cons_zero, List.set_cons_succ])
        refine wpAnyH_take (i := 37) (oi := { dst := some 108, op := Op.move (Operand.tmp 107), type := 4, pos := "more.go:27", after := #[{ on := 36, ground := Ground.data }, { on := 35, ground := Ground.chain }, { on := 22, ground := Ground.guard }], guard := some (22, true) }) (v := ?_) rfl (by kernel_rfl) (by kernel_rfl) (by kernel_rfl) (fun _ _ _ h => h) (Or.inl ⟨by rfl, ?hyB37⟩) (by assumption) ?_
        case hyB37 => (intro w hSw; (try dsimp only at hSw); go_simp; try with_reducible rfl)
        (try simp only [Act.put, List.setIfInBounds_toArray, List.set_cons_zero, List.set_cons_succ])
        refine wpAnyH_take (i := 38) (oi := { dst := some 109, op := Op.move (Operand.tmp 10), type := 24, pos := "more.go:27", after := #[{ on := 37, ground := Ground.guard }], guard := some (37, false) }) (v := ?_) rfl (by kernel_rfl) (by kernel_rfl) (by kernel_rfl) (fun _ _ _ h => h) (Or.inl ⟨by rfl, ?hyB38⟩) (by assumption) ?_
        case hyB38 => (intro w hSw; (try dsimp only at hSw); go_simp; try with_reducible rfl)
        (try simp only [Act.put, List.setIfInBounds_toArray, List.set_cons_zero, List.set_cons_succ])
        refine wpAnyH_take (i := 39) (oi := { dst := some 110, op := Op.move (Operand.tmp 12), type := 3, pos := "more.go:27", after := #[{ on := 37, ground := Ground.guard }], guard := some (37, false) }) (v := ?_) rfl (by kernel_rfl) (by kernel_rfl) (by kernel_rfl) (fun _ _ _ h => h) (Or.inl ⟨by rfl, ?hyB39⟩) (by assumption) ?_
        case hyB39 => (intro w hSw; (try dsimp only at hSw); go_simp; try with_reducible rfl)
        (try simp only [Act.put, List.setIfInBounds_toArray, List.set_cons_zero, List.set_cons_succ])
        refine wpAnyH_take (i := 40) (oi := { dst := some 111, op := Op.indexAddr 24 (Operand.tmp 109) (Operand.tmp 110), type := 0, pos := "more.go:27", after := #[{ on := 38, ground := Ground.data }, { on := 39, ground := Ground.data }, { on := 37, ground := Ground.guard }], guard := some (37, false) }) (v := ?_) rfl (by kernel_rfl) (by kernel_rfl) (by kernel_rfl) (fun _ _ _ h => h) (Or.inl ⟨by rfl, ?hyB40⟩) (by assumption) ?_
        case hyB40 => (intro w hSw; (try dsimp only at hSw); go_simp; try with_reducible rfl)
        (try simp only [Act.put, List.setIfInBounds_toArray, List.set_cons_zero, List.set_cons_succ])
        refine wpAnyH_take (i := 41) (oi := { dst := some 112, op := Op.fieldAddr 41 (Operand.tmp 111) 1, type := 0, pos := "more.go:27", after := #[{ on := 40, ground := Ground.data }, { on := 37, ground := Ground.guard }], guard := some (37, false) }) (v := ?_) rfl (by kernel_rfl) (by kernel_rfl) (by kernel_rfl) (fun _ _ _ h => h) (Or.inl ⟨by rfl, ?hyB41⟩) (by assumption) ?_
        case hyB41 => (intro w hSw; (try dsimp only at hSw); go_simp; try with_reducible rfl)
        (try simp only [Act.put, List.setIfInBounds_toArray, List.set_cons_zero, List.set_cons_succ])
        refine wpAnyH_take (i := 42) (oi := { dst := some 113, op := Op.load 3 (Operand.tmp 112), type := 3, pos := "more.go:27", after := #[{ on := 41, ground := Ground.data }, { on := 37, ground := Ground.guard }], guard := some (37, false) }) (v := ?_) rfl (by kernel_rfl) (by kernel_rfl) (by kernel_rfl) (fun _ _ _ h => h) (Or.inl ⟨by rfl, ?hyB42⟩) (by assumption) ?_
        case hyB42 => (intro w hSw; (try dsimp only at hSw); go_simp; try with_reducible rfl)
        (try simp only [Act.put, List.setIfInBounds_toArray, List.set_cons_zero, List.set_cons_succ])
        refine wpAnyH_take (i := 43) (oi := { dst := some 114, op := Op.move (Operand.tmp 7), type := 29, pos := "more.go:27", after := #[{ on := 37, ground := Ground.guard }], guard := some (37, false) }) (v := ?_) rfl (by kernel_rfl) (by kernel_rfl) (by kernel_rfl) (fun _ _ _ h => h) (Or.inl ⟨by rfl, ?hyB43⟩) (by assumption) ?_
        case hyB43 => (intro w hSw; (try dsimp only at hSw); go_simp; try with_reducible rfl)
        (try simp only [Act.put, List.setIfInBounds_toArray, List.set_cons_zero, List.set_cons_succ])
        refine wpAnyH_take (i := 44) (oi := { dst := some 115, op := Op.move (Operand.tmp 12), type := 3, pos := "more.go:27", after := #[{ on := 37, ground := Ground.guard }], guard := some (37, false) }) (v := ?_) rfl (by kernel_rfl) (by kernel_rfl) (by kernel_rfl) (fun _ _ _ h => h) (Or.inl ⟨by rfl, ?hyB44⟩) (by assumption) ?_
        case hyB44 => (intro w hSw; (try dsimp only at hSw); go_simp; try with_reducible rfl)
        (try simp only [Act.put, List.setIfInBounds_toArray, List.set_cons_zero, List.set_cons_succ])
        refine wpAnyH_take (i := 45) (oi := { dst := some 116, op := Op.move (Operand.tmp 5), type := 29, pos := "more.go:27", after := #[{ on := 37, ground := Ground.guard }], guard := some (37, false) }) (v := ?_) rfl (by kernel_rfl) (by kernel_rfl) (by kernel_rfl) (fun _ _ _ h => h) (Or.inl ⟨by rfl, ?hyB45⟩) (by assumption) ?_
        case hyB45 => (intro w hSw; (try dsimp only at hSw); go_simp; try with_reducible rfl)
        (try simp only [Act.put, List.setIfInBounds_toArray, List.set_cons_zero, List.set_cons_succ])
        refine wpAnyH_take (i := 46) (oi := { dst := some 117, op := Op.call { callee := Callee.builtin Builtin.len, args := #[Operand.tmp 116], argTypes := #[29] }, type := 3, pos := "more.go:27", after := #[{ on := 45, ground := Ground.data }, { on := 37, ground := Ground.guard }], guard := some (37, false) }) (v := ?_) rfl (by kernel_rfl) (by kernel_rfl) (by kernel_rfl) (fun _ _ _ h => h) (Or.inl ⟨by rfl, ?hyB46⟩) (by assumption) ?_
        case hyB46 => (intro w hSw; (try dsimp only at hSw); go_simp; try with_reducible rfl)
        (try simp only [Act.put, List.setIfInBounds_toArray, List.set_cons_zero, List.set_cons_succ])
        refine wpAnyH_take (i := 47) (oi := { dst := some 118, op := Op.binOp BinOp.sub 3 (Operand.tmp 115) (Operand.tmp 117) 3, type := 3, pos := "more.go:27", after := #[{ on := 44, ground := Ground.data }, { on := 46, ground := Ground.data }, { on := 37, ground := Ground.guard }], guard := some (37, false) }) (v := ?_) rfl (by kernel_rfl) (by kernel_rfl) (by kernel_rfl) (fun _ _ _ h => h) (Or.inl ⟨by rfl, ?hyB47⟩) (by assumption) ?_
        case hyB47 => (intro w hSw; (try dsimp only at hSw); go_simp; try with_reducible rfl)
        (try simp only [Act.put, List.setIfInBounds_toArray, List.set_cons_zero, List.set_cons_succ])
        refine wpAnyH_take (i := 48) (oi := { dst := some 119, op := Op.indexAddr 29 (Operand.tmp 114) (Operand.tmp 118), type := 0, pos := "more.go:27", after := #[{ on := 43, ground := Ground.data }, { on := 47, ground := Ground.data }, { on := 37, ground := Ground.guard }], guard := some (37, false) }) (v := ?_) rfl (by kernel_rfl) (by kernel_rfl) (by kernel_rfl) (fun _ _ _ h => h) (Or.inl ⟨by rfl, ?hyB48⟩) (by assumption) ?_
        case hyB48 => (intro w hSw; (try dsimp only at hSw); go_simp; try with_reducible rfl)
        (try simp only [Act.put, List.setIfInBounds_toArray, List.set_cons_zero, List.set_cons_succ])
        refine wpAnyH_take (i := 49) (oi := { dst := some 120, op := Op.fieldAddr 44 (Operand.tmp 119) 1, type := 0, pos := "more.go:27", after := #[{ on := 48, ground := Ground.data }, { on := 37, ground := Ground.guard }], guard := some (37, false) }) (v := ?_) rfl (by kernel_rfl) (by kernel_rfl) (by kernel_rfl) (fun _ _ _ h => h) (Or.inl ⟨by rfl, ?hyB49⟩) (by assumption) ?_
        case hyB49 => (intro w hSw; (try dsimp only at hSw); go_simp; try with_reducible rfl)
        (try simp only [Act.put, List.setIfInBounds_toArray, List.set_cons_zero, List.set_cons_succ])
        refine wpAnyH_take (i := 50) (oi := { dst := some 121, op := Op.load 3 (Operand.tmp 120), type := 3, pos := "more.go:27", after := #[{ on := 49, ground := Ground.data }, { on := 37, ground := Ground.guard }], guard := some (37, false) }) (v := ?_) rfl (by kernel_rfl) (by kernel_rfl) (by kernel_rfl) (fun _ _ _ h => h) (Or.inl ⟨by rfl, ?hyB50⟩) (by assumption) ?_
        case hyB50 => (intro w hSw; (try dsimp only at hSw); go_simp; try with_reducible rfl)
        (try simp only [Act.put, List.setIfInBounds_toArray, List.set_cons_zero, List.set_cons_succ])
        refine wpAnyH_take (i := 51) (oi := { dst := some 122, op := Op.move (Operand.tmp 0), type := 22, pos := "more.go:27", after := #[{ on := 37, ground := Ground.guard }], guard := some (37, false) }) (v := ?_) rfl (by kernel_rfl) (by kernel_rfl) (by kernel_rfl) (fun _ _ _ h => h) (Or.inl ⟨by rfl, ?hyB51⟩) (by assumption) ?_
        case hyB51 => (intro w hSw; (try dsimp only at hSw); go_simp; try with_reducible rfl)
        (try simp only [Act.put, List.setIfInBounds_toArray, List.set_cons_zero, List.set_cons_succ])
        refine wpAnyH_take (i := 52) (oi := { dst := some 123, op := Op.call { callee := Callee.builtin Builtin.len, args := #[Operand.tmp 122], argTypes := #[22] }, type := 3, pos := "more.go:27", after := #[{ on := 51, ground := Ground.data }, { on := 37, ground := Ground.guard }], guard := some (37, false) }) (v := ?_) rfl (by kernel_rfl) (by kernel_rfl) (by kernel_rfl) (fun _ _ _ h => h) (Or.inl ⟨by rfl, ?hyB52⟩) (by assumption) ?_
        case hyB52 => (intro w hSw; (try dsimp only at hSw); go_simp; try with_reducible rfl)
        (try simp only [Act.put, List.setIfInBounds_toArray, List.set_cons_zero, List.set_cons_succ])
        refine wpAnyH_take (i := 53) (oi := { dst := some 124, op := Op.binOp BinOp.add 3 (Operand.tmp 121) (Operand.tmp 123) 3, type := 3, pos := "more.go:27", after := #[{ on := 50, ground := Ground.data }, { on := 52, ground := Ground.data }, { on := 37, ground := Ground.guard }], guard := some (37, false) }) (v := ?_) rfl (by kernel_rfl) (by kernel_rfl) (by kernel_rfl) (fun _ _ _ h => h) (Or.inl ⟨by rfl, ?hyB53⟩) (by assumption) ?_
        case hyB53 => (intro w hSw; (try dsimp only at hSw); go_simp; try with_reducible rfl)
        (try simp only [Act.put, List.setIfInBounds_toArray, List.set_cons_zero, List.set_cons_succ])
        refine wpAnyH_take (i := 54) (oi := { dst := some 125, op := Op.binOp BinOp.add 3 (Operand.tmp 124) (Operand.const (Value.int IntKind.i64 1)) 3, type := 3, pos := "more.go:27", after := #[{ on := 53, ground := Ground.data }, { on := 37, ground := Ground.guard }], guard := some (37, false) }) (v := ?_) rfl (by kernel_rfl) (by kernel_rfl) (by kernel_rfl) (fun _ _ _ h => h) (Or.inl ⟨by rfl, ?hyB54⟩) (by assumption) ?_
        case hyB54 => (intro w hSw; (try dsimp only at hSw); go_simp; try with_reducible rfl)
        (try simp only [Act.put, List.setIfInBounds_toArray, List.set_cons_zero, List.set_cons_succ])
        refine wpAnyH_take (i := 55) (oi := { dst := some 126, op := Op.binOp BinOp.neq 3 (Operand.tmp 113) (Operand.tmp 125) 3, type := 4, pos := "more.go:27", after := #[{ on := 42, ground := Ground.data }, { on := 54, ground := Ground.data }, { on := 37, ground := Ground.guard }], guard := some (37, false) }) (v := ?_) rfl (by kernel_rfl) (by kernel_rfl) (by kernel_rfl) (fun _ _ _ h => h) (Or.inl ⟨by rfl, ?hyB55⟩) (by assumption) ?_
        case hyB55 => (intro w hSw; (try dsimp only at hSw); go_simp; try with_reducible rfl)
        (try simp only [Act.put, List.setIfInBounds_toArray, List.set_cons_zero, List.set_cons_succ])
        refine wpAnyH_take (i := 56) (oi := { dst := some 127, op := Op.pick (Operand.tmp 108) (Operand.const (Value.bool true)) (Operand.tmp 126), type := 4, pos := "more.go:27", after := #[{ on := 37, ground := Ground.data }, { on := 55, ground := Ground.data }, { on := 22, ground := Ground.guard }], guard := some (22, true) }) (v := ?_) rfl (by kernel_rfl) (by kernel_rfl) (by kernel_rfl) (fun _ _ _ h => h) (Or.inl ⟨by rfl, ?hyB56⟩) (by assumption) ?_
        case hyB56 => (intro w hSw; (try dsimp only at hSw); go_simp; try with_reducible rfl)
        (try simp only [Act.put, List.setIfInBounds_toArray, List.set_cons_zero, List.set_cons_succ])
        refine wpAnyH_take (i := 57) (oi := { dst := some 128, op := Op.pick (Operand.tmp 93) (Operand.tmp 127) (Operand.const (Value.bool false)), type := 4, pos := "more.go:27", after := #[{ on := 22, ground := Ground.data }, { on := 56, ground := Ground.data }, { on := 17, ground := Ground.guard }], guard := some (17, false) }) (v := ?_) rfl (by kernel_rfl) (by kernel_rfl) (by kernel_rfl) (fun _ _ _ h => h) (Or.inl ⟨by rfl, ?hyB57⟩) (by assumption) ?_
        case hyB57 => (intro w hSw; (try dsimp only at hSw); go_simp; try with_reducible rfl)
        (try simp only [Act.put, List.setIfInBounds_toArray, List.set_cons_zero, List.set_cons_succ])
        refine wpAnyH_take (i := 58) (oi := { dst := some 129, op := Op.pick (Operand.tmp 88) (Operand.const (Value.bool true)) (Operand.tmp 128), type := 4, pos := "more.go:27", after := #[{ on := 17, ground := Ground.data }, { on := 57, ground := Ground.data }], guard := none }) (v := ?_) rfl (by kernel_rfl) (by kernel_rfl) (by kernel_rfl) (fun _ _ _ h => h) (Or.inl ⟨by rfl, ?hyB58⟩) (by assumption) ?_
        case hyB58 => (intro w hSw; (try dsimp only at hSw); go_simp; try with_reducible rfl)
        (try simp only [Act.put, List.setIfInBounds_toArray, List.set_cons_zero, List.set_cons_succ])
        refine wpAnyH_done (by kernel_rfl) ?_ _
        go_wp2
        go_roundw
        case rel => exact ⟨k + 1, by omega, by go_num, next_trans s0 (next_trans hb hb')⟩
        case measure => simp [intOf]; omega
    · have hli : ¬ (k : Int) < (Mx : Int) + (My : Int) := by omega
      go_wp2
      go_ret
      exact ⟨rfl, HW0.out⟩
end Go.Proofs.YthpmnomplhhfgaaGreatDoor
