/- The walk of ReadBytes. -/
import Derived.Test.YthpmnomplhhfgaaGreatDoorG21
import Derived.Test.YthpmnomplhhfgaaGreatDoorG9
import Derived.Test.YthpmnomplhhfgaaGreatDoorG13
namespace Go.Proofs.YthpmnomplhhfgaaGreatDoor
open Go.RowKit

/-- Of, told by the node. -/
theorem of5 (x : Nd) (ao : Option Addr) (cap : Nat) (w : World) (hb : NdB x) (hc : x.l.length ≤ cap) (hk : IsNds w anyB ao x.l) :
    Calls Tryz.prog 16 #[ndV x ao cap] w fun e w' => (∃ ao' cap', e = .returned (ndV x ao' cap') ∧ x.l.length ≤ cap' ∧ IsNds w' anyB ao' x.l) ∧ Below w.heap.size w w' := by
  refine (of_any _ x ao cap w (Nat.le_refl _) hb.cnt hc hk).mono ?_
  rintro e w' ⟨⟨⟨ck, ca, ci, cs, cao, cn, ccap⟩, h1, h2⟩, hb2⟩
  obtain ⟨e1, e2, e3, e4, e5, e6, e7⟩ := h2
  simp only at e1 e2 e3 e4 e5 e6 e7
  refine ⟨⟨cao, ccap, ?_, by omega, e7.any⟩, hb2⟩
  rw [h1]
  unfold nodeV ndV
  simp only
  rw [e1, e2, e3, e4, e5]
/-- What the laws ask of a node that both have read, at any later world. -/
structure NdsC (W : World) (k a i : Int) (Y : ByteArray) (l : List Nd) (M : Nat) (a1 : Option Addr) (c1 : Nat) (a2 : Option Addr) (c2 : Nat) (T H : ByteArray) (N : Int) (vk vi : Int) (vs : ByteArray) (vb : Bool) : Prop where
  of_ : ∀ w', Below W.heap.size W w' → Calls Tryz.prog 16 #[.agg #[.int .i64 (k), .int .i64 (a), .int .i64 (i), .string (Y), .slice a1 M c1]] w' fun e w2 => (∃ ao' cap', e = .returned (.agg #[.int .i64 (k), .int .i64 (a), .int .i64 (i), .string (Y), .slice ao' M cap']) ∧ M ≤ cap' ∧ IsNds w2 anyB ao' l) ∧ Below w'.heap.size w' w2
  pl : ∀ ao' cap' w', Below W.heap.size W w' → M ≤ cap' → IsNds w' anyB ao' l → Calls Tryz.prog 15 #[.agg #[.int .i64 (k), .int .i64 (a), .int .i64 (i), .string (Y), .slice ao' M cap'], .agg #[.int .i64 (k), .int .i64 (a), .int .i64 (i), .string (Y), .slice a2 M c2]] w' fun e w2 => e = .returned (.bool true) ∧ Below w'.heap.size w' w2
  text : ∀ w', Below W.heap.size W w' → Calls Tryz.prog 17 #[.agg #[.int .i64 (k), .int .i64 (a), .int .i64 (i), .string (Y), .slice a1 M c1]] w' fun e w2 => e = .returned (.string T) ∧ Below w'.heap.size w' w2
  rtext : ∀ w', Below W.heap.size W w' → Calls Tryz.prog 18 #[.agg #[.int .i64 (k), .int .i64 (a), .int .i64 (i), .string (Y), .slice a2 M c2]] w' fun e w2 => e = .returned (.string T) ∧ Below w'.heap.size w' w2
  count : ∀ w', Below W.heap.size W w' → Calls Tryz.prog 19 #[.agg #[.int .i64 (k), .int .i64 (a), .int .i64 (i), .string (Y), .slice a1 M c1]] w' fun e w2 => e = .returned (.int .i64 N) ∧ Below w'.heap.size w' w2
  rcount : ∀ w', Below W.heap.size W w' → Calls Tryz.prog 20 #[.agg #[.int .i64 (k), .int .i64 (a), .int .i64 (i), .string (Y), .slice a2 M c2]] w' fun e w2 => e = .returned (.int .i64 N) ∧ Below w'.heap.size w' w2
  head : ∀ w', Below W.heap.size W w' → Calls Tryz.prog 21 #[.agg #[.int .i64 (k), .int .i64 (a), .int .i64 (i), .string (Y), .slice a1 M c1]] w' fun e w2 => e = .returned (.string H) ∧ Below w'.heap.size w' w2
  rhead : ∀ w', Below W.heap.size W w' → Calls Tryz.prog 22 #[.agg #[.int .i64 (k), .int .i64 (a), .int .i64 (i), .string (Y), .slice a2 M c2]] w' fun e w2 => e = .returned (.string H) ∧ Below w'.heap.size w' w2
  val : ∀ w', Calls Tryz.prog 13 #[.agg #[.int .i64 (k), .int .i64 (a), .int .i64 (i), .string (Y), .slice a1 M c1]] w' fun e w2 => e = .returned (.tuple #[.agg #[.int .i64 (vk), .int .i64 (vi), .string (vs)], .bool vb]) ∧ Below w'.heap.size w' w2
  rval : ∀ w', Calls Tryz.prog 14 #[.agg #[.int .i64 (k), .int .i64 (a), .int .i64 (i), .string (Y), .slice a2 M c2]] w' fun e w2 => e = .returned (.tuple #[.agg #[.int .i64 (vk), .int .i64 (vi), .string (vs)], .bool vb]) ∧ Below w'.heap.size w' w2
theorem ndsC {W : World} (x : Nd) (a1 a2 : Option Addr) (c1 c2 : Nat) (hb : NdB x) (ht : TabW W) (h1 : x.l.length ≤ c1) (h2 : x.l.length ≤ c2) (k1 : IsNds W anyB a1 x.l) (k2 : IsNds W anyB a2 x.l) :
    NdsC W x.k (x.a : Int) x.i (baL x.s) x.l x.l.length a1 c1 a2 c2 (baL (txtN x)) (baL (headN x)) (cntN x : Int) (valN x).1 (valN x).2.1 (baL (valN x).2.2.1) (valN x).2.2.2 := by
  have g1 := hb.cnt
  have g2 := hb.txt
  have g3 := hb.len
  exact ⟨fun w' h => of5 x a1 c1 w' hb h1 (k1.next h), fun ao' cap' w' h hc hk => placesL_any x x ao' a2 cap' c2 w' g1 hc h2 (sim_refl _) rfl hk (k2.next h),
    fun w' h => text_any5 x a1 c1 w' hb.wf (tab_next ht h) (by omega) (by omega) h1 (k1.next h), fun w' h => rtext_any5 _ x a2 c2 w' (Nat.le_refl _) g1 hb.wf hb.sum h2 (k2.next h),
    fun w' h => count_any x a1 c1 w' g1 h1 (k1.next h), fun w' h => rcount_any _ x a2 c2 w' (Nat.le_refl _) g1 h2 (k2.next h),
    fun w' h => head_any x a1 c1 w' (by omega) h1 (k1.next h), fun w' h => rhead_any x a2 c2 w' (by omega) h2 (k2.next h),
    fun w' => value_any5 x a1 c1 w', fun w' => rvalue_any5 x a2 c2 w'⟩

set_option maxHeartbeats 16000000 in
set_option maxRecDepth 20000 in
theorem bytes5_walk (ao : Option Addr) (n cap : Nat) (l : List UInt8) (w : World) (hl : l.length = n) (h : IsB w ao l) (hc : n ≤ cap) (h4 : Lib4 w) :
    Calls Tryz.prog 3 #[.slice ao n cap] w fun e w' => e = .returned (.bool true) ∧ Below w.heap.size w w' := by
  have H4 : Hid (Lib4 w) := h4
  have HI : Hid (IsB w ao l) := h
  have HL : Hid (l.length = n) := hl
  clear h hl h4
  go_enter Tryz.func3, Tryz.ntmps3
  go_wp2_with fail
  refine (known5 w H4.out).mono ?_
  rintro e w1 ⟨rfl, hb1⟩
  have HB1 : Hid (Below w.heap.size w w1) := hb1
  clear hb1
  by_cases hn : 3000 < n
  · have hni : (3000 : Int) < (n : Int) := by omega
    go_wp2
    go_ret
    exact ⟨rfl, HB1.out⟩
  have hni : ¬ (3000 : Int) < (n : Int) := by omega
  obtain ⟨R, HR⟩ : ∃ R, Hid (readQ l = R) := ⟨_, rfl⟩
  have HEr : Hid (R.e = 0 ∨ (errI R.e ∧ R.l = [] ∧ R.a < n)) := by
    have := readQ_err l
    rw [HR.out, HL.out] at this; exact this
  have HBd : Hid (R.e = 0 → WfL R.l ∧ cntL R.l ≤ 10000 ∧ (linesN R.l).length ≤ 80000 ∧ R.l.length ≤ 10000 ∧ ∀ x ∈ R.l, NdB x) := fun he => read_bnd l R HR.out he (by rw [HL.out]; omega)
  obtain ⟨L, ra, re⟩ := R
  by_cases he : re = 0
  · subst he
    clear HEr
    obtain ⟨_, _, _, hM1, hNb⟩ := HBd.out rfl
    have HNb : Hid (∀ x ∈ L, NdB x) := hNb
    clear HBd hNb
    obtain ⟨M, HM⟩ : ∃ M, Hid (L.length = M) := ⟨_, rfl⟩
    simp only at hM1
    rw [HM.out] at hM1
    have HS : Hid (Calls Tryz.prog 10 #[.slice ao n cap] w1 fun e w' => (∃ ao cap, e = .returned (.tuple #[.slice ao M cap, .nilIface]) ∧ M ≤ cap ∧ IsNds w' anyB ao L) ∧ Below w1.heap.size w1 w') := by
      rw [← HM.out]
      exact read_yes5 ao n cap l L w1 HL.out (HI.out.next HB1.out) (by omega) hc (H4.out.next HB1.out).max ra HR.out
    have HS2 : Hid (∀ w2, Below w1.heap.size w1 w2 → Calls Tryz.prog 11 #[.slice ao n cap] w2 fun e w' => (∃ ao cap, e = .returned (.tuple #[.slice ao M cap, .agg #[.slice none 0 0, .int .i64 0]]) ∧ M ≤ cap ∧ IsNds w' anyB ao L) ∧ Below w2.heap.size w2 w') := fun w2 hb2 => by
      rw [← HM.out]
      exact rread_yes5 ao n cap l L w2 HL.out (HI.out.next (next_trans HB1.out hb2)) (by omega) hc ra HR.out
    go_wp2_with fail
    refine HS.out.mono ?_
    rintro e w2 ⟨⟨a2, c2, rfl, hc2, hN2⟩, hb2⟩
    have HB2 : Hid (Below w1.heap.size w1 w2) := hb2
    have HN2 : Hid (IsNds w2 anyB a2 L) := hN2
    clear hb2 hN2
    go_wp2_with fail
    refine (HS2.out w2 HB2.out).mono ?_
    rintro e w3 ⟨⟨a3, c3, rfl, hc3, hN3⟩, hb3⟩
    obtain ⟨W, HWe⟩ : ∃ W, Hid (w3.alloc (.cells #[.slice none 0 0, .int .i64 0] 32) = W) := ⟨_, rfl⟩
    have HBW : Hid (Below w3.heap.size w3 W) := by rw [← HWe.out]; exact alloc_below _ _
    have HB3 : Hid (Below w.heap.size w W) := next_trans HB1.out (next_trans HB2.out (next_trans hb3 HBW.out))
    have v0 : W.cell? ⟨w3.heap.size, 0, none⟩ = some (.slice none 0 0) := by rw [← HWe.out]; exact box0 rfl
    have v1 : W.cell? ⟨w3.heap.size, 1, none⟩ = some (.int .i64 0) := by rw [← HWe.out]; exact box0 rfl
    have HN2' : Hid (IsNds W anyB a2 L) := HN2.out.next (next_trans hb3 HBW.out)
    have HN3' : Hid (IsNds W anyB a3 L) := hN3.next HBW.out
    clear hb3 hN3 HN2
    go_wp2_with fail
    rw [HWe.out]
    refine (tells_nil W).mono ?_
    rintro e w4 ⟨rfl, hb4⟩
    have HB4 : Hid (Below w.heap.size w w4) := next_trans HB3.out hb4
    have HK1 : Hid (IsNds w4 anyB a2 L) := HN2'.out.next hb4
    have HK2 : Hid (IsNds w4 anyB a3 L) := HN3'.out.next hb4
    clear hb4 HN2' HN3' v0 v1
    go_wp2
    go_loopw [7] (fun q wr => ∃ k : Nat, k ≤ M ∧ q = .int .i64 k ∧ Hid (Below w4.heap.size w4 wr)) (fun q _ => M - (intOf q).toNat)
    case atStart => exact ⟨0, Nat.zero_le _, rfl, Below.refl _ _⟩
    case round =>
      obtain ⟨k, hk, rfl, HW⟩ := hrel
      have HW0 : Hid (Below w.heap.size w wr) := next_trans HB4.out HW.out
      by_cases hlt : k < M
      · have hli : (k : Int) < (M : Int) := by omega
        have hl0 : (0 : Int) ≤ (k : Int) := by omega
        obtain ⟨x, HG⟩ : ∃ x, Hid (L[k]? = some x) := ⟨_, List.getElem?_eq_getElem (by rw [HM.out]; exact hlt)⟩
        obtain ⟨b1, o1, ka1, kc1, rfl, hA1⟩ := HK1.out.at HG.out
        obtain ⟨b2, o2, ka2, kc2, rfl, hA2⟩ := HK2.out.at HG.out
        have hx := HNb.out x (List.mem_of_getElem? HG.out)
        have HC0 : Hid (NdsC w4 x.k (x.a : Int) x.i (baL x.s) x.l x.l.length ka1 kc1 ka2 kc2 (baL (txtN x)) (baL (headN x)) (cntN x : Int) (valN x).1 (valN x).2.1 (baL (valN x).2.2.1) (valN x).2.2.2) :=
          ndsC x ka1 ka2 kc1 kc2 hx (H4.out.next HB4.out).tab hA1.hc hA2.hc hA1.kids hA2.kids
        have HD1 : Hid (NdAt w4 anyB b1 (o1 + k * 5) x ka1 kc1) := hA1
        have HD2 : Hid (NdAt w4 anyB b2 (o2 + k * 5) x ka2 kc2) := hA2
        clear hx hA1 hA2 HG
        obtain ⟨xk, xa, xi, xs, xl⟩ := x
        simp only at HC0
        obtain ⟨Y, HY⟩ : ∃ Y, Hid (baL xs = Y) := ⟨_, rfl⟩
        obtain ⟨A, HA⟩ : ∃ A : Int, Hid ((xa : Int) = A) := ⟨_, rfl⟩
        obtain ⟨Q, HQ⟩ : ∃ Q, Hid (xl.length = Q) := ⟨_, rfl⟩
        obtain ⟨T, HT⟩ : ∃ T, Hid (baL (txtN ⟨xk, xa, xi, xs, xl⟩) = T) := ⟨_, rfl⟩
        obtain ⟨H, HH⟩ : ∃ H, Hid (baL (headN ⟨xk, xa, xi, xs, xl⟩) = H) := ⟨_, rfl⟩
        obtain ⟨C, HCn⟩ : ∃ C : Int, Hid ((cntN ⟨xk, xa, xi, xs, xl⟩ : Int) = C) := ⟨_, rfl⟩
        obtain ⟨vk, Hvk⟩ : ∃ vk, Hid ((valN ⟨xk, xa, xi, xs, xl⟩).1 = vk) := ⟨_, rfl⟩
        obtain ⟨vi, Hvi⟩ : ∃ vi, Hid ((valN ⟨xk, xa, xi, xs, xl⟩).2.1 = vi) := ⟨_, rfl⟩
        obtain ⟨vs, Hvs⟩ : ∃ vs, Hid (baL (valN ⟨xk, xa, xi, xs, xl⟩).2.2.1 = vs) := ⟨_, rfl⟩
        obtain ⟨vb, Hvb⟩ : ∃ vb, Hid ((valN ⟨xk, xa, xi, xs, xl⟩).2.2.2 = vb) := ⟨_, rfl⟩
        have HC : Hid (NdsC w4 xk A xi Y xl Q ka1 kc1 ka2 kc2 T H C vk vi vs vb) := by
          rw [← HY.out, ← HA.out, ← HQ.out, ← HT.out, ← HH.out, ← HCn.out, ← Hvk.out, ← Hvi.out, ← Hvs.out, ← Hvb.out]; exact HC0.out
        have HX1 : Hid (w4.cell? ⟨b1, o1 + k * 5, none⟩ = some (.int .i64 xk) ∧ w4.cell? ⟨b1, o1 + k * 5 + 1, none⟩ = some (.int .i64 A) ∧ w4.cell? ⟨b1, o1 + k * 5 + 2, none⟩ = some (.int .i64 xi) ∧ w4.cell? ⟨b1, o1 + k * 5 + 3, none⟩ = some (.string Y) ∧ w4.cell? ⟨b1, o1 + k * 5 + 4, none⟩ = some (.slice ka1 Q kc1)) := by
          rw [← HY.out, ← HA.out, ← HQ.out]; exact ⟨HD1.out.c0, HD1.out.c1, HD1.out.c2, HD1.out.c3, HD1.out.c4⟩
        have HX2 : Hid (w4.cell? ⟨b2, o2 + k * 5, none⟩ = some (.int .i64 xk) ∧ w4.cell? ⟨b2, o2 + k * 5 + 1, none⟩ = some (.int .i64 A) ∧ w4.cell? ⟨b2, o2 + k * 5 + 2, none⟩ = some (.int .i64 xi) ∧ w4.cell? ⟨b2, o2 + k * 5 + 3, none⟩ = some (.string Y) ∧ w4.cell? ⟨b2, o2 + k * 5 + 4, none⟩ = some (.slice ka2 Q kc2)) := by
          rw [← HY.out, ← HA.out, ← HQ.out]; exact ⟨HD2.out.c0, HD2.out.c1, HD2.out.c2, HD2.out.c3, HD2.out.c4⟩
        clear HC0 HD1 HD2 HY HA HQ HT HH HCn Hvk Hvi Hvs Hvb
        obtain ⟨x0, x1, x2, x3, x4⟩ := HX1.out
        have p0 := keep_cell HW.out x0
        have p1 := keep_cell HW.out x1
        have p2 := keep_cell HW.out x2
        have p3 := keep_cell HW.out x3
        have p4 := keep_cell HW.out x4
        clear x0 x1 x2 x3 x4
        go_wp2_with fail
        refine (HC.out.val _).mono ?_
        rintro e w5 ⟨rfl, hb5⟩
        have HBU : Hid (Below w4.heap.size w4 (w5.alloc (.cells #[.int .i64 vk, .int .i64 vi, .string vs] 37))) := next_trans HW.out (next_trans hb5 (alloc_below _ _))
        obtain ⟨y0, y1, y2, y3, y4⟩ := HX2.out
        have q0 := keep_cell HBU.out y0
        have q1 := keep_cell HBU.out y1
        have q2 := keep_cell HBU.out y2
        have q3 := keep_cell HBU.out y3
        have q4 := keep_cell HBU.out y4
        clear y0 y1 y2 y3 y4 p0 p1 p2 p3 p4 hb5
        go_wp2_with fail
        refine (HC.out.rval _).mono ?_
        rintro e w6 ⟨rfl, hb6⟩
        obtain ⟨Z, HZe⟩ : ∃ Z, Hid (w6.alloc (.cells #[.int .i64 vk, .int .i64 vi, .string vs] 37) = Z) := ⟨_, rfl⟩
        have HBZ : Hid (Below w4.heap.size w4 Z) := by rw [← HZe.out]; exact next_trans HBU.out (next_trans hb6 (alloc_below _ _))
        obtain ⟨P5, HP5⟩ : ∃ P5, Hid (w5.heap.size = P5) := ⟨_, rfl⟩
        obtain ⟨P6, HP6⟩ : ∃ P6, Hid (w6.heap.size = P6) := ⟨_, rfl⟩
        have f0 : Z.cell? ⟨P5, 0, none⟩ = some (.int .i64 vk) := by rw [← HZe.out, ← HP5.out]; exact alloc_cell (keep_cell hb6 (box0 rfl))
        have f1 : Z.cell? ⟨P5, 1, none⟩ = some (.int .i64 vi) := by rw [← HZe.out, ← HP5.out]; exact alloc_cell (keep_cell hb6 (box0 rfl))
        have f2 : Z.cell? ⟨P5, 2, none⟩ = some (.string vs) := by rw [← HZe.out, ← HP5.out]; exact alloc_cell (keep_cell hb6 (box0 rfl))
        have g0 : Z.cell? ⟨P6, 0, none⟩ = some (.int .i64 vk) := by rw [← HZe.out, ← HP6.out]; exact box0 rfl
        have g1 : Z.cell? ⟨P6, 1, none⟩ = some (.int .i64 vi) := by rw [← HZe.out, ← HP6.out]; exact box0 rfl
        have g2 : Z.cell? ⟨P6, 2, none⟩ = some (.string vs) := by rw [← HZe.out, ← HP6.out]; exact box0 rfl
        clear q0 q1 q2 q3 q4 hb6
        obtain ⟨x0, x1, x2, x3, x4⟩ := HX1.out
        obtain ⟨y0, y1, y2, y3, y4⟩ := HX2.out
        have p0 := keep_cell HBZ.out x0
        have p1 := keep_cell HBZ.out x1
        have p2 := keep_cell HBZ.out x2
        have p3 := keep_cell HBZ.out x3
        have p4 := keep_cell HBZ.out x4
        have q0 := keep_cell HBZ.out y0
        have q1 := keep_cell HBZ.out y1
        have q2 := keep_cell HBZ.out y2
        have q3 := keep_cell HBZ.out y3
        have q4 := keep_cell HBZ.out y4
        clear x0 x1 x2 x3 x4 y0 y1 y2 y3 y4
        have s0 : Below w4.heap.size w4 Z.drew := HBZ.out.drew
        have s1 : w4.heap.size ≤ Z.drew.heap.size := s0.size
        go_wp2_with fail
        rw [HZe.out, HP5.out, HP6.out]
        go_region_held3 (fun w' => w'.cell? ⟨b1, o1 + k * 5, none⟩ = some (.int .i64 xk) ∧ w'.cell? ⟨b1, o1 + k * 5 + 1, none⟩ = some (.int .i64 A) ∧ w'.cell? ⟨b1, o1 + k * 5 + 2, none⟩ = some (.int .i64 xi) ∧ w'.cell? ⟨b1, o1 + k * 5 + 3, none⟩ = some (.string Y) ∧ w'.cell? ⟨b1, o1 + k * 5 + 4, none⟩ = some (.slice ka1 Q kc1) ∧ w'.cell? ⟨b2, o2 + k * 5, none⟩ = some (.int .i64 xk) ∧ w'.cell? ⟨b2, o2 + k * 5 + 1, none⟩ = some (.int .i64 A) ∧ w'.cell? ⟨b2, o2 + k * 5 + 2, none⟩ = some (.int .i64 xi) ∧ w'.cell? ⟨b2, o2 + k * 5 + 3, none⟩ = some (.string Y) ∧ w'.cell? ⟨b2, o2 + k * 5 + 4, none⟩ = some (.slice ka2 Q kc2) ∧ w'.cell? ⟨P5, 0, none⟩ = some (.int .i64 vk) ∧ w'.cell? ⟨P5, 1, none⟩ = some (.int .i64 vi) ∧ w'.cell? ⟨P5, 2, none⟩ = some (.string vs) ∧ w'.cell? ⟨P6, 0, none⟩ = some (.int .i64 vk) ∧ w'.cell? ⟨P6, 1, none⟩ = some (.int .i64 vi) ∧ w'.cell? ⟨P6, 2, none⟩ = some (.string vs) ∧ Below w4.heap.size w4 w' ∧ w4.heap.size ≤ w'.heap.size)
          (((try dsimp only); go_split_ands; refine ⟨?_, ?_, ?_, ?_, ?_, ?_, ?_, ?_, ?_, ?_, ?_, ?_, ?_, ?_, ?_, ?_, ?_, ?_⟩ <;> first | assumption | exact keep_cell (by assumption) (by assumption) | exact below_next (by assumption) (by assumption) (by assumption) | exact le_next (by assumption) (by assumption)))
          (first
            | (go_at_call 16; go_split_ands; with_reducible refine (HC.out.of_ _ (by assumption)).mono ?_; rintro e w' ⟨⟨ao', cap', rfl, hcap', hkid'⟩, hb⟩)
            | (go_at_call 15; go_split_ands; with_reducible refine (HC.out.pl _ _ _ (by assumption) (by assumption) (by assumption)).mono ?_; rintro e w' ⟨rfl, hb⟩)
            | (go_at_call 17; go_split_ands; with_reducible refine (HC.out.text _ (by assumption)).mono ?_; rintro e w' ⟨rfl, hb⟩)
            | (go_at_call 18; go_split_ands; with_reducible refine (HC.out.rtext _ (by assumption)).mono ?_; rintro e w' ⟨rfl, hb⟩)
            | (go_at_call 19; go_split_ands; with_reducible refine (HC.out.count _ (by assumption)).mono ?_; rintro e w' ⟨rfl, hb⟩)
            | (go_at_call 20; go_split_ands; with_reducible refine (HC.out.rcount _ (by assumption)).mono ?_; rintro e w' ⟨rfl, hb⟩)
            | (go_at_call 21; go_split_ands; with_reducible refine (HC.out.head _ (by assumption)).mono ?_; rintro e w' ⟨rfl, hb⟩)
            | (go_at_call 22; go_split_ands; with_reducible refine (HC.out.rhead _ (by assumption)).mono ?_; rintro e w' ⟨rfl, hb⟩))
        all_goals
          go_split_ands
          go_wp2
          go_roundw
          case rel => exact ⟨k + 1, by omega, by go_num, by rw [Hid]; assumption⟩
          case measure => simp [intOf]; omega
      · have hli : ¬ (k : Int) < (M : Int) := by omega
        go_wp2
        go_ret
        exact ⟨rfl, HW0.out⟩
  · obtain ⟨herr, hl0, hra⟩ := HEr.out.resolve_left he
    simp only at he herr hl0 hra
    have hin := errI_in herr
    have hei : (re == 0) = false := by simpa using he
    have HS : Hid (Calls Tryz.prog 10 #[.slice ao n cap] w1 fun e w' => (∃ B, e = .returned (.tuple #[.slice none 0 0, .iface 59 (.pointer (some ⟨B, 0, none⟩))]) ∧ Chain w' re [([99, 104, 97, 114], (ra : Int))] (.iface 59 (.pointer (some ⟨B, 0, none⟩)))) ∧ Below w1.heap.size w1 w') :=
      read_no5 ao n cap l ⟨L, ra, re⟩ w1 HL.out (HI.out.next HB1.out) (by omega) hc (H4.out.next HB1.out).max HR.out he
    have HS2 : Hid (∀ w2, Below w1.heap.size w1 w2 → Calls Tryz.prog 11 #[.slice ao n cap] w2 fun e w' => (∃ b, e = .returned (.tuple #[.slice none 0 0, .agg #[.slice (some ⟨b, 0, none⟩) 1 1, .int .i64 re]]) ∧ PtAt w' b (ra : Int)) ∧ Below w2.heap.size w2 w') := fun w2 hb2 =>
      rread_no5 ao n cap l ⟨L, ra, re⟩ w2 HL.out (HI.out.next (next_trans HB1.out hb2)) (by omega) hc HR.out he
    go_wp2_with fail
    refine HS.out.mono ?_
    rintro e w2 ⟨⟨B, rfl, hC⟩, hb2⟩
    have HB2 : Hid (Below w1.heap.size w1 w2) := hb2
    have HC : Hid (Chain w2 re [([99, 104, 97, 114], (ra : Int))] (.iface 59 (.pointer (some ⟨B, 0, none⟩)))) := hC
    clear hb2 hC
    go_wp2_with fail
    refine (HS2.out w2 HB2.out).mono ?_
    rintro e w3 ⟨⟨b, rfl, hP⟩, hb3⟩
    obtain ⟨W, HWe⟩ : ∃ W, Hid (w3.alloc (.cells #[.slice (some ⟨b, 0, none⟩) 1 1, .int .i64 re] 32) = W) := ⟨_, rfl⟩
    have HBW : Hid (Below w3.heap.size w3 W) := by rw [← HWe.out]; exact alloc_below _ _
    have HB3 : Hid (Below w.heap.size w W) := next_trans HB1.out (next_trans HB2.out (next_trans hb3 HBW.out))
    have HTl : Hid (Calls Tryz.prog 12 #[.iface 59 (.pointer (some ⟨B, 0, none⟩)), .agg #[.slice (some ⟨b, 0, none⟩) 1 1, .int .i64 re]] W fun e w' => e = .returned (.bool true) ∧ Below W.heap.size W w') :=
      tells_one B b ra re W (HC.out.next (next_trans hb3 HBW.out)) ⟨keep_cell HBW.out hP.1, keep_cell HBW.out hP.2⟩ (H4.out.next HB3.out) hin.1 hin.2 ((inB_iff _).2 (by omega))
    clear hb3 hP
    go_wp2_with fail
    rw [HWe.out]
    refine HTl.out.mono ?_
    rintro e w4 ⟨rfl, hb4⟩
    have HB4 : Hid (Below w.heap.size w w4) := next_trans HB3.out hb4
    clear hb4
    go_wp2
    go_loopw [7] (fun q wr => q = .int .i64 0 ∧ Hid (Below w.heap.size w wr)) (fun _ _ => 0)
    case atStart => exact ⟨rfl, HB4⟩
    case round =>
      obtain ⟨rfl, HW⟩ := hrel
      go_wp2
      go_ret
      exact ⟨rfl, HW.out⟩
end Go.Proofs.YthpmnomplhhfgaaGreatDoor
