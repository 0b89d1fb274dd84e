import Derived.Test.YtnhbjhdkpbhioaaGreatDoorH2
import Derived.Test.YtnhbjhdkpbhioaaGreatDoorH1
import Derived.Test.YtnhbjhdkpbhioaaGreatDoorG27
import Derived.Deep.RegionHeld3
import Derived.Deep.AppendLies
namespace Go.Proofs.YtnhbjhdkpbhioaaGreatDoor
open Go.RowKit
theorem bx_news {w : World} {b : Nat} {c : Array Value} (h : Bx w b c) : ∀ j u, c.toList[j]? = some u → w.cell? ((⟨b, 0, none⟩ : Addr).add j) = some u := by
  intro j u hj
  have e : (⟨b, 0, none⟩ : Addr).add j = ⟨b, j, none⟩ := by unfold Addr.add; split <;> simp_all
  rw [e, h.cell]
  rw [Array.getElem?_toList] at hj
  exact hj
theorem Bx.set5 {w : World} {b : Nat} {a0 a1 a2 a3 a4 : Value} (h : Bx w b #[a0, a1, a2, a3, a4]) (v0 v1 v2 v3 v4 : Value) : Bx (setN5 w b v0 v1 v2 v3 v4) b #[v0, v1, v2, v3, v4] :=
  ((((h.set 0 v0).set 1 v1).set 2 v2).set 3 v3).set 4 v4
set_option linter.unusedSimpArgs false in
set_option maxHeartbeats 16000000 in
set_option maxRecDepth 8000 in
theorem rpnode_any (L : List Tp) (LN : Nat) (lo : Option Addr) (lc : Nat) (P : Ptn) (po : Option Addr) (pc q : Nat) (w : World) (hLN : L.length = LN) (hL : LN ≤ 1000) (_hT : ∀ t ∈ L, t.l.length ≤ 1000) (ht : IsTps w lo L) (hq : plT L P.t = some q) (hP : P.l.length ≤ 1000) (hs : IsTss w po P.l) (hlt : ∀ t ∈ P.l, t.p < (slotsAt L q).length) :
    Calls Tryz.prog 21 #[ptV P po pc, .slice lo LN lc] w fun e w' => MkR w w' e (ptNd (slotsAt L q) P) ∧ Below w.heap.size w w' := by
  obtain ⟨tn, l⟩ := P
  unfold ptV
  simp only at hq hP hs hlt ⊢
  obtain ⟨x, HX⟩ : ∃ x, Hid (ptNd (slotsAt L q) ⟨tn, l⟩ = x) := ⟨_, rfl⟩
  rw [HX.out]
  obtain ⟨C, HC⟩ : ∃ C, Hid (l.length = C) := ⟨_, rfl⟩
  rw [HC.out] at hP ⊢
  obtain ⟨T, hT1, hT2, _⟩ := plT_some L tn q hq
  obtain ⟨lb, lf, so0, tc, rfl, d0, d1, hsl⟩ := ht q T hT1
  have hqn : q < LN := by rw [← hLN]; exact (List.getElem?_eq_some_iff.1 hT1).1
  have htl : slotsAt L q = T.l := by unfold slotsAt; rw [hT1]
  have HFi : Hid (∀ w', Below w.heap.size w w' → Calls Tryz.prog 48 #[.slice (some ⟨lb, lf, none⟩) LN lc, .string tn] w' fun e w2 => e = .returned (.int .i64 (q : Int)) ∧ Below w'.heap.size w' w2) := fun w' h => by
    have := rtfind_any L LN (some ⟨lb, lf, none⟩) lc tn w' hLN hL (ht.next h)
    rw [plI_at hq] at this
    exact this
  obtain ⟨tn', tl⟩ := T
  simp only at htl d1 hsl
  rw [htl] at hlt HX
  obtain ⟨N, HN⟩ : ∃ N, Hid (tl.length = N) := ⟨_, rfl⟩
  rw [HN.out] at d1
  have HLt : Hid (∀ t ∈ l, t.p < N) := by rw [Hid, ← HN.out]; exact hlt
  have HI : Hid (IsTss w po l) := hs
  have HD : Hid (w.cell? ⟨lb, lf + q * 2 + 1, none⟩ = some (.slice so0 N tc)) := d1
  have HSl : Hid (IsSls w so0 tl) := hsl
  have hqi : (q : Int) < (LN : Int) := by omega
  have hq0 : (0 : Int) ≤ (q : Int) := by omega
  have HSy : Hid (∀ (Y : ByteArray) (w : World), Calls Tryz.prog 62 #[.string Y] w fun e w' => e = .returned (.agg #[.int .i64 (2), .int .i64 (0), .int .i64 (0), .string (Y), .slice none 0 0]) ∧ Below w.heap.size w w') := rsym5_any
  have HLs : Hid (∀ (ao : Option Addr) (n cap : Nat) (w : World), Calls Tryz.prog 64 #[.slice ao n cap] w fun e w' => e = .returned (.agg #[.int .i64 (0), .int .i64 (0), .int .i64 (0), .string (⟨#[]⟩), .slice ao n cap]) ∧ Below w.heap.size w w') := rl5_any
  obtain ⟨W, HWe⟩ : ∃ W, Hid ((w.alloc (.cells #[.string tn, .slice po C pc] 49)).alloc (.cells #[.int .i64 0, .int .i64 0, .int .i64 0, .string ⟨#[]⟩, .slice none 0 0] 46) = W) := ⟨_, rfl⟩
  have HB : Hid (Below w.heap.size w W) := by rw [← HWe.out]; exact next_trans (alloc_below _ _) (alloc_below _ _)
  have HPb : Hid (Bx W w.heap.size #[.string tn, .slice po C pc]) := by rw [← HWe.out]; exact (Bx.made _ _ _).alloc _
  have HRb : Hid (Bx W (w.heap.size + 1) #[.int .i64 0, .int .i64 0, .int .i64 0, .string ⟨#[]⟩, .slice none 0 0]) := Bx.made' HWe.out (by simp)
  have x0 : W.cell? ⟨w.heap.size, 0, none⟩ = some (.string tn) := HPb.out.cell 0
  clear hLN hL ht hq hs hlt hT1 hT2 d0 d1 hsl htl
  go_enter Tryz.func21, Tryz.ntmps21
  go_wp2_with fail
  rw [HWe.out]
  clear HWe
  refine (HSy.out tn _).mono ?_
  rintro e w1 ⟨rfl, hb1⟩
  have HB1 : Hid (Below w.heap.size w w1) := next_trans HB.out hb1
  have HP1 : Hid (Bx w1 w.heap.size #[.string tn, .slice po C pc]) := HPb.out.next hb1
  have HR1 : Hid (Bx w1 (w.heap.size + 1) #[.int .i64 0, .int .i64 0, .int .i64 0, .string ⟨#[]⟩, .slice none 0 0]) := HRb.out.next hb1
  obtain ⟨W2, HW2⟩ : ∃ W2, Hid (w1.alloc (.cells #[.int .i64 2, .int .i64 0, .int .i64 0, .string tn, .slice none 0 0] 46) = W2) := ⟨_, rfl⟩
  obtain ⟨VB, HVB⟩ : ∃ VB, Hid (w1.heap.size = VB) := ⟨_, rfl⟩
  have HI0 : Hid (RnW w W2 tn po C pc (.slice (some ⟨VB, 0, none⟩) 1 1) [⟨2, 0, 0, tn.data.toList, none, 0, 0⟩] (kidsP tl tn (l.take 0))) := by
    have hl1 : w.heap.size + 2 ≤ w1.heap.size := HR1.out.lt
    rw [← HW2.out, ← HVB.out]
    refine ⟨next_trans HB1.out (alloc_below _ _), HP1.out.alloc _, HR1.out.alloc _, ?_, ⟨nc_sym _ _ _, trivial⟩⟩
    have := World.ownsRow_lit (base := w.heap.size + 2) (e := 46) (size := 5) w1 #[.int .i64 2, .int .i64 0, .int .i64 0, .string tn, .slice none 0 0] 1 hl1 (by unfold maxLen; omega) rfl
    have e : ncsC [⟨2, 0, 0, tn.data.toList, none, 0, 0⟩] = (#[.int .i64 2, .int .i64 0, .int .i64 0, .string tn, .slice none 0 0] : Array Value).toList := by
      show [Value.int .i64 2, .int .i64 0, .int .i64 0, .string (baL tn.data.toList), .slice none 0 0] = _
      rw [ba_self]
    rw [e]; exact this
  have x0 : w1.cell? ⟨w.heap.size, 0, none⟩ = some (.string tn) := HP1.out.cell 0
  have hl0 : w.heap.size < w1.heap.size := HP1.out.lt
  clear hb1 HB HPb HRb HB1 HP1 HR1
  go_wp2_with fail
  rw [HW2.out, HVB.out]
  clear HW2 HVB hl0
  refine (HFi.out W2 HI0.out.bel).mono ?_
  rintro e w3 ⟨rfl, hb3⟩
  have HI3 : Hid (RnW w w3 tn po C pc (.slice (some ⟨VB, 0, none⟩) 1 1) [⟨2, 0, 0, tn.data.toList, none, 0, 0⟩] (kidsP tl tn (l.take 0))) := HI0.out.next hb3
  clear hb3 x0 HI0 HFi
  go_wp2
  go_loopw [5, 7] (fun v q9 wr => ∃ (k : Nat) (cs : List Nc), k ≤ C ∧ q9 = .int .i64 k ∧ Hid (RnW w wr tn po C pc v cs (kidsP tl tn (l.take k)))) (fun _ q9 _ => C - (intOf q9).toNat)
  case atStart => exact ⟨0, _, Nat.zero_le _, rfl, HI3⟩
  case round =>
    obtain ⟨k, cs, hk, rfl, HT⟩ := hrel
    clear HI3
    obtain ⟨vao, vn, vcap, hv⟩ : ∃ vao vn vcap, u5 = .slice vao vn vcap := by
      rcases HT.out.own.2 with ⟨e, _⟩ | ⟨gg, cap, cur, e, _⟩
      · exact ⟨_, _, _, e⟩
      · exact ⟨_, _, _, e⟩
    subst hv
    have hlr : w.heap.size + 1 < wr.heap.size := HT.out.r.lt
    have x1 : wr.cell? ⟨w.heap.size, 1, none⟩ = some (.slice po C pc) := HT.out.x.cell 1
    by_cases hlt : k < C
    · have hki : (k : Int) < (C : Int) := by omega
      have hk0 : (0 : Int) ≤ (k : Int) := by omega
      obtain ⟨s, hs⟩ : ∃ s, l[k]? = some s := ⟨_, List.getElem?_eq_getElem (by rw [HC.out]; exact hlt)⟩
      obtain ⟨b, o, rfl, c0, c1, c2, c3, c4, c5⟩ := (HI.out.next HT.out.bel) k s hs
      have HKs : Hid (kidsP tl tn (l.take (k + 1)) = kidsP tl tn (l.take k) ++ [tsNd tl s]) := kidsP_snoc hs
      have hpN := HLt.out s (List.mem_of_getElem? hs)
      obtain ⟨tp, tnn, tv, tk, ti, ts⟩ := s
      simp only at c0 c1 c2 c3 c4 c5 hpN
      obtain ⟨sl, hsl⟩ : ∃ sl, tl[tp]? = some sl := ⟨_, List.getElem?_eq_getElem (by rw [HN.out]; exact hpN)⟩
      have hnm : nmAt tl tp = sl.n := by unfold nmAt; rw [hsl]
      obtain ⟨sb, so, rfl, n0, _, _, _⟩ := (HSl.out.next HT.out.bel) tp sl hsl
      have r1 : wr.cell? ⟨lb, lf + q * 2 + 1, none⟩ = some (.slice (some ⟨sb, so, none⟩) N tc) := keep_cell HT.out.bel HD.out
      obtain ⟨nm, Hnm⟩ : ∃ nm, Hid (sl.n = nm) := ⟨_, rfl⟩
      rw [Hnm.out] at n0 hnm
      have HNd : Hid (tsNd tl ⟨tp, tnn, tv, tk, ti, ts⟩ = ⟨0, 0, 0, [], [tsym nm.data.toList, termNd ⟨tp, tnn, tv, tk, ti, ts⟩]⟩) := by rw [Hid]; unfold tsNd; simp only; rw [hnm]
      have hpi : (tp : Int) < (N : Int) := by omega
      have hp0 : (0 : Int) ≤ (tp : Int) := by omega
      have hcl : cs.length ≤ 2000 := by
        have h1 := HT.out.kids.len
        unfold kidsP at h1
        rw [List.length_cons, List.length_map, List.length_take] at h1
        omega
      have HOb : Hid (∀ j, (Value.slice vao vn vcap).ownBlock = some j → w.heap.size + 2 ≤ j ∧ j < wr.heap.size) := fun j hj => HT.out.own.lt j hj
      obtain ⟨W3, HW3⟩ : ∃ W3, Hid (wr.alloc (.cells #[.int .i64 (tp : Int), .bool tnn, .string tv, .int .i64 tk, .int .i64 ti, .string ts] 125) = W3) := ⟨_, rfl⟩
      obtain ⟨BT, HBT⟩ : ∃ BT, Hid (wr.heap.size = BT) := ⟨_, rfl⟩
      have HTb : Hid (Bx W3 BT #[.int .i64 (tp : Int), .bool tnn, .string tv, .int .i64 tk, .int .i64 ti, .string ts]) := Bx.made' HW3.out HBT.out
      have hb3 : Below wr.heap.size wr W3 := by rw [← HW3.out]; exact alloc_below _ _
      have hlb : lb < BT := by rw [← HBT.out]; exact World.block_lt_of_cell? wr _ r1
      have hsb : sb < BT := by rw [← HBT.out]; exact World.block_lt_of_cell? wr _ n0
      have hlw : w.heap.size + 1 < BT := by rw [← HBT.out]; exact hlr
      have s3 : W3.cell? ⟨BT, 3, none⟩ = some (.int .i64 tk) := HTb.out.cell 3
      have s4 : W3.cell? ⟨BT, 4, none⟩ = some (.int .i64 ti) := HTb.out.cell 4
      have s5 : W3.cell? ⟨BT, 5, none⟩ = some (.string ts) := HTb.out.cell 5
      have hob : b < wr.heap.size := World.block_lt_of_cell? wr _ c0
      have HOf : Hid (Calls Tryz.prog 63 #[.agg #[.int .i64 (tk), .int .i64 (ti), .string (ts)]] W3 fun e w' => e = .returned (.agg #[.int .i64 (tk), .int .i64 (0), .int .i64 (ti), .string (ts), .slice none 0 0]) ∧ Below W3.heap.size W3 w') := rof5_any tk ti ts W3
      have HSb : Hid (sb < w.heap.size) := by
        obtain ⟨b', o', e, g, _⟩ := HSl.out tp sl hsl
        cases e
        exact World.block_lt_of_cell? w _ g
      clear hs hsl hnm
      go_wp2_with fail
      rw [HW3.out, HBT.out]
      refine HOf.out.mono ?_
      rintro e w4 ⟨rfl, hb4⟩
      have hb34 : Below wr.heap.size wr w4 := next_trans hb3 hb4
      obtain ⟨NB, HNB⟩ : ∃ NB, Hid (w4.heap.size = NB) := ⟨_, rfl⟩
      have HB4 : Hid (Below wr.heap.size wr w4) := hb34
      have HT4 : Hid (Bx w4 BT #[.int .i64 (tp : Int), .bool tnn, .string tv, .int .i64 tk, .int .i64 ti, .string ts]) := HTb.out.next hb4
      have hbn : BT < NB := by rw [← HNB.out]; exact HT4.out.lt
      have hTb4 := HT4.out
      have s1 : w4.cell? ⟨BT, 1, none⟩ = some (.bool tnn) := hTb4.cell 1
      have s2 : w4.cell? ⟨BT, 2, none⟩ = some (.string tv) := hTb4.cell 2
      have hbw4 : BT < w4.heap.size := hTb4.lt
      have HR4 : Hid (w4.cell? ⟨lb, lf + q * 2 + 1, none⟩ = some (.slice (some ⟨sb, so, none⟩) N tc) ∧ w4.cell? ⟨sb, so + tp * 4, none⟩ = some (.string nm)) := ⟨keep_cell hb34 r1, keep_cell hb34 n0⟩
      clear hb3 hb4 hb34 hTb4 s3 s4 s5 c0 c1 c2 c3 c4 c5 r1 n0 hob HOf HW3
      obtain ⟨X9, HX9⟩ : ∃ X, Hid (termNd ⟨tp, tnn, tv, tk, ti, ts⟩ = X) := ⟨_, rfl⟩
      obtain ⟨S9, HS9⟩ : ∃ S, Hid (tsNd tl ⟨tp, tnn, tv, tk, ti, ts⟩ = S) := ⟨_, rfl⟩
      have HNe : Hid (S9 = ⟨0, 0, 0, [], [tsym nm.data.toList, X9]⟩) := by rw [Hid, ← HS9.out, ← HX9.out]; exact HNd.out
      have HKt : Hid (kidsP tl tn (l.take (k + 1)) = kidsP tl tn (l.take k) ++ [S9]) := by rw [Hid, ← HS9.out]; exact HKs.out
      clear HNd HKs HS9
      by_cases hx : tv = noS <;> cases tnn
      case' pos.false =>
        have he := isE_yes hx
        have HPl : Hid (∀ n', plainNd ⟨tp, n', tv, tk, ti, ts⟩ = ⟨tk, 0, ti, ts.data.toList, []⟩) := fun n' => by unfold plainNd; exact if_pos hx
        clear hx
        obtain ⟨W5, HW5⟩ : ∃ W5, Hid (w4.alloc (.cells #[.int .i64 tk, .int .i64 0, .int .i64 ti, .string ts, .slice none 0 0] 46) = W5) := ⟨_, rfl⟩
        have hb45 : Below w4.heap.size w4 W5 := by rw [← HW5.out]; exact alloc_below _ _
        have HN5 : Hid (Bx W5 NB #[.int .i64 tk, .int .i64 0, .int .i64 ti, .string ts, .slice none 0 0]) := Bx.made' HW5.out HNB.out
        have HCx : Hid (NcIs W5 (geB BT) ⟨tk, 0, ti, ts.data.toList, none, 0, 0⟩ X9) := by
          rw [Hid, ← HX9.out, show termNd ⟨tp, false, tv, tk, ti, ts⟩ = plainNd ⟨tp, false, tv, tk, ti, ts⟩ from rfl, HPl.out]
          exact NcIs.leaf _ _ _ _ _ _
        have hs5 : NB < W5.heap.size := HN5.out.lt
        have t0 : W5.cell? ⟨BT, 0, none⟩ = some (.int .i64 (tp : Int)) := (HT4.out.next hb45).cell 0
        obtain ⟨pk, pi, ps, pa, pn, pp, HZ, HCy⟩ : ∃ (pk pi : Int) (ps : ByteArray) (pa : Option Addr) (pn pp : Nat), Hid (Bx W5 NB #[.int .i64 pk, .int .i64 0, .int .i64 pi, .string ps, .slice pa pn pp]) ∧ Hid (NcIs W5 (geB BT) ⟨pk, 0, pi, ps.data.toList, pa, pn, pp⟩ X9) := ⟨tk, ti, ts, none, 0, 0, HN5, HCx⟩
        go_wp2_with fail
        rw [HNB.out, HW5.out]
        clear HCx HN5 HW5
      case' pos.true =>
        have he := isE_yes hx
        have HPl : Hid (∀ n', plainNd ⟨tp, n', tv, tk, ti, ts⟩ = ⟨tk, 0, ti, ts.data.toList, []⟩) := fun n' => by unfold plainNd; exact if_pos hx
        clear hx
        obtain ⟨W6, HW6⟩ : ∃ W6, Hid (w4.alloc (.cells #[.int .i64 8, .int .i64 0, .int .i64 0, .string ⟨#[]⟩, .slice (some ⟨NB + 1, 0, none⟩) 1 1] 46) = W6) := ⟨_, rfl⟩
        obtain ⟨W5, HW5⟩ : ∃ W5, Hid (W6.alloc (.cells #[.int .i64 tk, .int .i64 0, .int .i64 ti, .string ts, .slice none 0 0] 46) = W5) := ⟨_, rfl⟩
        have hs6 : W6.heap.size = NB + 1 := by rw [← HW6.out, World.size_alloc, HNB.out]
        have hb45 : Below w4.heap.size w4 W5 := by rw [← HW5.out, ← HW6.out]; exact next_trans (alloc_below _ _) (alloc_below _ _)
        have HN5 : Hid (Bx W5 NB #[.int .i64 8, .int .i64 0, .int .i64 0, .string ⟨#[]⟩, .slice (some ⟨NB + 1, 0, none⟩) 1 1]) := by rw [Hid, ← HW5.out]; exact (Bx.made' HW6.out HNB.out).alloc _
        have HA5 : Hid (Bx W5 (NB + 1) #[.int .i64 tk, .int .i64 0, .int .i64 ti, .string ts, .slice none 0 0]) := Bx.made' HW5.out hs6
        have HCx : Hid (NcIs W5 (geB BT) ⟨8, 0, 0, [], some ⟨NB + 1, 0, none⟩, 1, 1⟩ X9) := by
          rw [Hid, ← HX9.out, show termNd ⟨tp, true, tv, tk, ti, ts⟩ = ⟨8, 0, 0, [], [plainNd ⟨tp, true, tv, tk, ti, ts⟩]⟩ from rfl, HPl.out]
          refine ⟨rfl, rfl, rfl, rfl, rfl, Nat.le_refl _, ?_⟩
          refine lit_nds (L := [⟨tk, 0, ti, ts.data.toList, none, 0, 0⟩]) ?_ (by unfold geB; omega) ⟨NcIs.leaf _ _ _ _ _ _, trivial⟩
          show Bx _ _ #[.int .i64 tk, .int .i64 0, .int .i64 ti, .string (baL ts.data.toList), .slice none 0 0]
          rw [ba_self]
          exact HA5.out
        have hs5 : NB < W5.heap.size := HN5.out.lt
        have t0 : W5.cell? ⟨BT, 0, none⟩ = some (.int .i64 (tp : Int)) := (HT4.out.next hb45).cell 0
        obtain ⟨pk, pi, ps, pa, pn, pp, HZ, HCy⟩ : ∃ (pk pi : Int) (ps : ByteArray) (pa : Option Addr) (pn pp : Nat), Hid (Bx W5 NB #[.int .i64 pk, .int .i64 0, .int .i64 pi, .string ps, .slice pa pn pp]) ∧ Hid (NcIs W5 (geB BT) ⟨pk, 0, pi, ps.data.toList, pa, pn, pp⟩ X9) := ⟨8, 0, ⟨#[]⟩, some ⟨NB + 1, 0, none⟩, 1, 1, HN5, HCx⟩
        go_wp2_with fail
        rw [HNB.out, HW6.out, HW5.out]
        clear HCx HN5 HW5 HW6 HA5 hs6
      case' neg.false =>
        have he := isE_no hx
        have HPl : Hid (∀ n', plainNd ⟨tp, n', tv, tk, ti, ts⟩ = ⟨6, 0, 0, tv.data.toList, []⟩) := fun n' => by unfold plainNd; exact if_neg hx
        clear hx
        obtain ⟨W5, HW5⟩ : ∃ W5, Hid (w4.alloc (.cells #[.int .i64 6, .int .i64 0, .int .i64 0, .string tv, .slice none 0 0] 46) = W5) := ⟨_, rfl⟩
        have hb45 : Below w4.heap.size w4 W5 := by rw [← HW5.out]; exact alloc_below _ _
        have HN5 : Hid (Bx W5 NB #[.int .i64 6, .int .i64 0, .int .i64 0, .string tv, .slice none 0 0]) := Bx.made' HW5.out HNB.out
        have HCx : Hid (NcIs W5 (geB BT) ⟨6, 0, 0, tv.data.toList, none, 0, 0⟩ X9) := by
          rw [Hid, ← HX9.out, show termNd ⟨tp, false, tv, tk, ti, ts⟩ = plainNd ⟨tp, false, tv, tk, ti, ts⟩ from rfl, HPl.out]
          exact NcIs.leaf _ _ _ _ _ _
        have hs5 : NB < W5.heap.size := HN5.out.lt
        have t0 : W5.cell? ⟨BT, 0, none⟩ = some (.int .i64 (tp : Int)) := (HT4.out.next hb45).cell 0
        obtain ⟨pk, pi, ps, pa, pn, pp, HZ, HCy⟩ : ∃ (pk pi : Int) (ps : ByteArray) (pa : Option Addr) (pn pp : Nat), Hid (Bx W5 NB #[.int .i64 pk, .int .i64 0, .int .i64 pi, .string ps, .slice pa pn pp]) ∧ Hid (NcIs W5 (geB BT) ⟨pk, 0, pi, ps.data.toList, pa, pn, pp⟩ X9) := ⟨6, 0, tv, none, 0, 0, HN5, HCx⟩
        go_wp2_with fail
        rw [HNB.out, HW5.out]
        clear HCx HN5 HW5
      case' neg.true =>
        have he := isE_no hx
        have HPl : Hid (∀ n', plainNd ⟨tp, n', tv, tk, ti, ts⟩ = ⟨6, 0, 0, tv.data.toList, []⟩) := fun n' => by unfold plainNd; exact if_neg hx
        clear hx
        obtain ⟨W6, HW6⟩ : ∃ W6, Hid (w4.alloc (.cells #[.int .i64 8, .int .i64 0, .int .i64 0, .string ⟨#[]⟩, .slice (some ⟨NB + 1, 0, none⟩) 1 1] 46) = W6) := ⟨_, rfl⟩
        obtain ⟨W5, HW5⟩ : ∃ W5, Hid (W6.alloc (.cells #[.int .i64 6, .int .i64 0, .int .i64 0, .string tv, .slice none 0 0] 46) = W5) := ⟨_, rfl⟩
        have hs6 : W6.heap.size = NB + 1 := by rw [← HW6.out, World.size_alloc, HNB.out]
        have hb45 : Below w4.heap.size w4 W5 := by rw [← HW5.out, ← HW6.out]; exact next_trans (alloc_below _ _) (alloc_below _ _)
        have HN5 : Hid (Bx W5 NB #[.int .i64 8, .int .i64 0, .int .i64 0, .string ⟨#[]⟩, .slice (some ⟨NB + 1, 0, none⟩) 1 1]) := by rw [Hid, ← HW5.out]; exact (Bx.made' HW6.out HNB.out).alloc _
        have HA5 : Hid (Bx W5 (NB + 1) #[.int .i64 6, .int .i64 0, .int .i64 0, .string tv, .slice none 0 0]) := Bx.made' HW5.out hs6
        have HCx : Hid (NcIs W5 (geB BT) ⟨8, 0, 0, [], some ⟨NB + 1, 0, none⟩, 1, 1⟩ X9) := by
          rw [Hid, ← HX9.out, show termNd ⟨tp, true, tv, tk, ti, ts⟩ = ⟨8, 0, 0, [], [plainNd ⟨tp, true, tv, tk, ti, ts⟩]⟩ from rfl, HPl.out]
          refine ⟨rfl, rfl, rfl, rfl, rfl, Nat.le_refl _, ?_⟩
          refine lit_nds (L := [⟨6, 0, 0, tv.data.toList, none, 0, 0⟩]) ?_ (by unfold geB; omega) ⟨NcIs.leaf _ _ _ _ _ _, trivial⟩
          show Bx _ _ #[.int .i64 6, .int .i64 0, .int .i64 0, .string (baL tv.data.toList), .slice none 0 0]
          rw [ba_self]
          exact HA5.out
        have hs5 : NB < W5.heap.size := HN5.out.lt
        have t0 : W5.cell? ⟨BT, 0, none⟩ = some (.int .i64 (tp : Int)) := (HT4.out.next hb45).cell 0
        obtain ⟨pk, pi, ps, pa, pn, pp, HZ, HCy⟩ : ∃ (pk pi : Int) (ps : ByteArray) (pa : Option Addr) (pn pp : Nat), Hid (Bx W5 NB #[.int .i64 pk, .int .i64 0, .int .i64 pi, .string ps, .slice pa pn pp]) ∧ Hid (NcIs W5 (geB BT) ⟨pk, 0, pi, ps.data.toList, pa, pn, pp⟩ X9) := ⟨8, 0, ⟨#[]⟩, some ⟨NB + 1, 0, none⟩, 1, 1, HN5, HCx⟩
        go_wp2_with fail
        rw [HNB.out, HW6.out, HW5.out]
        clear HCx HN5 HW5 HW6 HA5 hs6
      all_goals
        have HB5 : Hid (Below wr.heap.size wr W5) := next_trans HB4.out hb45
        have HTz : Hid (RnW w W5 tn (some ⟨b, o, none⟩) C pc (.slice vao vn vcap) cs (kidsP tl tn (l.take k))) := HT.out.next HB5.out
        have r1 := keep_cell hb45 HR4.out.1
        have n0 := keep_cell hb45 HR4.out.2
        have z0 : W5.cell? ⟨NB, 0, none⟩ = some (.int .i64 pk) := HZ.out.cell 0
        have z1 : W5.cell? ⟨NB, 1, none⟩ = some (.int .i64 0) := HZ.out.cell 1
        have z2 : W5.cell? ⟨NB, 2, none⟩ = some (.int .i64 pi) := HZ.out.cell 2
        have z3 : W5.cell? ⟨NB, 3, none⟩ = some (.string ps) := HZ.out.cell 3
        have z4 : W5.cell? ⟨NB, 4, none⟩ = some (.slice pa pn pp) := HZ.out.cell 4
        clear s1 s2 hbw4 HT hb45
        refine wp_region_held_drew (S := (fun w' => w'.cell? ⟨BT, 0, none⟩ = some (.int .i64 (tp : Int)) ∧ w'.cell? ⟨lb, lf + q * 2 + 1, none⟩ = some (.slice (some ⟨sb, so, none⟩) N tc) ∧ w'.cell? ⟨sb, so + tp * 4, none⟩ = some (.string nm) ∧ w'.cell? ⟨NB, 0, none⟩ = some (.int .i64 pk) ∧ w'.cell? ⟨NB, 1, none⟩ = some (.int .i64 0) ∧ w'.cell? ⟨NB, 2, none⟩ = some (.int .i64 pi) ∧ w'.cell? ⟨NB, 3, none⟩ = some (.string ps) ∧ w'.cell? ⟨NB, 4, none⟩ = some (.slice pa pn pp) ∧ Below W5.heap.size W5 w' ∧ W5.heap.size ≤ w'.heap.size)) (by kernel_rfl) ?_ (fun hHeldAR => ?_)
        · exact ⟨t0, r1, n0, z0, z1, z2, z3, z4, (Below.refl _ _).drew, (Below.refl W5.heap.size W5).drew.size⟩
        refine wpAnyH_take (i := 0) (oi := { dst := some 44, op := Op.move (Operand.tmp 6), type := 3, pos := "ref.go:109", after := #[], guard := none }) (v := ?_) rfl (by kernel_rfl) (by kernel_rfl) (by kernel_rfl) (fun _ _ _ h => h) (Or.inl ⟨by rfl, ?hyAR0⟩) (by assumption) ?_
        case hyAR0 => (intro w hSw; (try dsimp only at hSw); go_simp; try with_reducible rfl)
        (try simp only [Act.put, List.setIfInBounds_toArray, List.set_cons_zero, List.set_cons_succ])
        refine wpAnyH_take (i := 1) (oi := { dst := some 45, op := Op.binOp BinOp.geq 3 (Operand.tmp 44) (Operand.const (Value.int IntKind.i64 0)) 3, type := 4, pos := "ref.go:109", after := #[{ on := 0, ground := Ground.data }], guard := none }) (v := ?_) rfl (by kernel_rfl) (by kernel_rfl) (by kernel_rfl) (fun _ _ _ h => h) (Or.inl ⟨by rfl, ?hyAR1⟩) (by assumption) ?_
        case hyAR1 => (intro w hSw; (try dsimp only at hSw); go_simp; try with_reducible rfl)
        (try simp only [Act.put, List.setIfInBounds_toArray, List.set_cons_zero, List.set_cons_succ])
        refine wpAnyH_take (i := 2) (oi := { dst := some 46, op := Op.move (Operand.tmp 45), type := 4, pos := "ref.go:109", after := #[{ on := 1, ground := Ground.data }], guard := none }) (v := ?_) rfl (by kernel_rfl) (by kernel_rfl) (by kernel_rfl) (fun _ _ _ h => h) (Or.inl ⟨by rfl, ?hyAR2⟩) (by assumption) ?_
        case hyAR2 => (intro w hSw; (try dsimp only at hSw); go_simp; try with_reducible rfl)
        (try simp only [Act.put, List.setIfInBounds_toArray, List.set_cons_zero, List.set_cons_succ])
        refine wpAnyH_take (i := 3) (oi := { dst := some 47, op := Op.fieldAddr 125 (Operand.tmp 8) 0, type := 0, pos := "ref.go:109", after := #[{ on := 2, ground := Ground.guard }], guard := some (2, true) }) (v := ?_) rfl (by kernel_rfl) (by kernel_rfl) (by kernel_rfl) (fun _ _ _ h => h) (Or.inl ⟨by rfl, ?hyAR3⟩) (by assumption) ?_
        case hyAR3 => (intro w hSw; (try dsimp only at hSw); go_simp; try with_reducible rfl)
        (try simp only [Act.put, List.setIfInBounds_toArray, List.set_cons_zero, List.set_cons_succ])
        refine wpAnyH_take (i := 4) (oi := { dst := some 48, op := Op.load 3 (Operand.tmp 47), type := 3, pos := "ref.go:109", after := #[{ on := 3, ground := Ground.data }, { on := 2, ground := Ground.guard }], guard := some (2, true) }) (v := ?_) rfl (by kernel_rfl) (by kernel_rfl) (by kernel_rfl) (fun _ _ _ h => h) (Or.inl ⟨by rfl, ?hyAR4⟩) (by assumption) ?_
        case hyAR4 => (intro w hSw; (try dsimp only at hSw); go_simp; try with_reducible rfl)
        (try simp only [Act.put, List.setIfInBounds_toArray, List.set_cons_zero, List.set_cons_succ])
        refine wpAnyH_take (i := 5) (oi := { dst := some 49, op := Op.move (Operand.tmp 1), type := 32, pos := "ref.go:109", after := #[{ on := 2, ground := Ground.guard }], guard := some (2, true) }) (v := ?_) rfl (by kernel_rfl) (by kernel_rfl) (by kernel_rfl) (fun _ _ _ h => h) (Or.inl ⟨by rfl, ?hyAR5⟩) (by assumption) ?_
        case hyAR5 => (intro w hSw; (try dsimp only at hSw); go_simp; try with_reducible rfl)
        (try simp only [Act.put, List.setIfInBounds_toArray, List.set_cons_zero, List.set_cons_succ])
        refine wpAnyH_take (i := 6) (oi := { dst := some 50, op := Op.move (Operand.tmp 6), type := 3, pos := "ref.go:109", after := #[{ on := 2, ground := Ground.guard }], guard := some (2, true) }) (v := ?_) rfl (by kernel_rfl) (by kernel_rfl) (by kernel_rfl) (fun _ _ _ h => h) (Or.inl ⟨by rfl, ?hyAR6⟩) (by assumption) ?_
        case hyAR6 => (intro w hSw; (try dsimp only at hSw); go_simp; try with_reducible rfl)
        (try simp only [Act.put, List.setIfInBounds_toArray, List.set_cons_zero, List.set_cons_succ])
        refine wpAnyH_take (i := 7) (oi := { dst := some 51, op := Op.indexAddr 32 (Operand.tmp 49) (Operand.tmp 50), type := 0, pos := "ref.go:109", after := #[{ on := 5, ground := Ground.data }, { on := 6, ground := Ground.data }, { on := 2, ground := Ground.guard }], guard := some (2, true) }) (v := ?_) rfl (by kernel_rfl) (by kernel_rfl) (by kernel_rfl) (fun _ _ _ h => h) (Or.inl ⟨by rfl, ?hyAR7⟩) (by assumption) ?_
        case hyAR7 => (intro w hSw; (try dsimp only at hSw); go_simp; try with_reducible rfl)
        (try simp only [Act.put, List.setIfInBounds_toArray, List.set_cons_zero, List.set_cons_succ])
        refine wpAnyH_take (i := 8) (oi := { dst := some 52, op := Op.fieldAddr 112 (Operand.tmp 51) 1, type := 0, pos := "ref.go:109", after := #[{ on := 7, ground := Ground.data }, { on := 2, ground := Ground.guard }], guard := some (2, true) }) (v := ?_) rfl (by kernel_rfl) (by kernel_rfl) (by kernel_rfl) (fun _ _ _ h => h) (Or.inl ⟨by rfl, ?hyAR8⟩) (by assumption) ?_
        case hyAR8 => (intro w hSw; (try dsimp only at hSw); go_simp; try with_reducible rfl)
        (try simp only [Act.put, List.setIfInBounds_toArray, List.set_cons_zero, List.set_cons_succ])
        refine wpAnyH_take (i := 9) (oi := { dst := some 53, op := Op.load 110 (Operand.tmp 52), type := 110, pos := "ref.go:109", after := #[{ on := 8, ground := Ground.data }, { on := 2, ground := Ground.guard }], guard := some (2, true) }) (v := ?_) rfl (by kernel_rfl) (by kernel_rfl) (by kernel_rfl) (fun _ _ _ h => h) (Or.inl ⟨by rfl, ?hyAR9⟩) (by assumption) ?_
        case hyAR9 => (intro w hSw; (try dsimp only at hSw); go_simp; try with_reducible rfl)
        (try simp only [Act.put, List.setIfInBounds_toArray, List.set_cons_zero, List.set_cons_succ])
        refine wpAnyH_take (i := 10) (oi := { dst := some 54, op := Op.call { callee := Callee.builtin Builtin.len, args := #[Operand.tmp 53], argTypes := #[110] }, type := 3, pos := "ref.go:109", after := #[{ on := 9, ground := Ground.data }, { on := 2, ground := Ground.guard }], guard := some (2, true) }) (v := ?_) rfl (by kernel_rfl) (by kernel_rfl) (by kernel_rfl) (fun _ _ _ h => h) (Or.inl ⟨by rfl, ?hyAR10⟩) (by assumption) ?_
        case hyAR10 => (intro w hSw; (try dsimp only at hSw); go_simp; try with_reducible rfl)
        (try simp only [Act.put, List.setIfInBounds_toArray, List.set_cons_zero, List.set_cons_succ])
        refine wpAnyH_take (i := 11) (oi := { dst := some 55, op := Op.binOp BinOp.lss 3 (Operand.tmp 48) (Operand.tmp 54) 3, type := 4, pos := "ref.go:109", after := #[{ on := 4, ground := Ground.data }, { on := 10, ground := Ground.data }, { on := 2, ground := Ground.guard }], guard := some (2, true) }) (v := ?_) rfl (by kernel_rfl) (by kernel_rfl) (by kernel_rfl) (fun _ _ _ h => h) (Or.inl ⟨by rfl, ?hyAR11⟩) (by assumption) ?_
        case hyAR11 => (intro w hSw; (try dsimp only at hSw); go_simp; try with_reducible rfl)
        (try simp only [Act.put, List.setIfInBounds_toArray, List.set_cons_zero, List.set_cons_succ])
        refine wpAnyH_take (i := 12) (oi := { dst := some 56, op := Op.pick (Operand.tmp 46) (Operand.tmp 55) (Operand.const (Value.bool false)), type := 4, pos := "ref.go:109", after := #[{ on := 2, ground := Ground.data }, { on := 11, ground := Ground.data }], guard := none }) (v := ?_) rfl (by kernel_rfl) (by kernel_rfl) (by kernel_rfl) (fun _ _ _ h => h) (Or.inl ⟨by rfl, ?hyAR12⟩) (by assumption) ?_
        case hyAR12 => (intro w hSw; (try dsimp only at hSw); go_simp; try with_reducible rfl)
        (try simp only [Act.put, List.setIfInBounds_toArray, List.set_cons_zero, List.set_cons_succ])
        refine wpAnyH_done (by kernel_rfl) ?_ _
        obtain ⟨Wd, HWd⟩ : ∃ Wd, Hid (W5.drew = Wd) := ⟨_, rfl⟩
        have hHd := hHeldAR
        rw [HWd.out] at hHd
        obtain ⟨t0, r1, n0, z0, z1, z2, z3, z4, hbd, hld⟩ := hHd
        rw [HWd.out]
        clear HWd hHeldAR
        go_wp2_with fail
        refine wp_region_held_drew (S := (fun w' => w'.cell? ⟨BT, 0, none⟩ = some (.int .i64 (tp : Int)) ∧ w'.cell? ⟨lb, lf + q * 2 + 1, none⟩ = some (.slice (some ⟨sb, so, none⟩) N tc) ∧ w'.cell? ⟨sb, so + tp * 4, none⟩ = some (.string nm) ∧ w'.cell? ⟨NB, 0, none⟩ = some (.int .i64 pk) ∧ w'.cell? ⟨NB, 1, none⟩ = some (.int .i64 0) ∧ w'.cell? ⟨NB, 2, none⟩ = some (.int .i64 pi) ∧ w'.cell? ⟨NB, 3, none⟩ = some (.string ps) ∧ w'.cell? ⟨NB, 4, none⟩ = some (.slice pa pn pp))) (by kernel_rfl) ?_ (fun hHeldBR => ?_)
        · exact ⟨t0, r1, n0, z0, z1, z2, z3, z4⟩
        refine wpAnyH_take (i := 0) (oi := { dst := some 57, op := Op.move (Operand.tmp 5), type := 24, pos := "ref.go:110", after := #[], guard := none }) (v := ?_) rfl (by kernel_rfl) (by kernel_rfl) (by kernel_rfl) (fun _ _ _ h => h) (Or.inl ⟨by rfl, ?hyBR0⟩) (by assumption) ?_
        case hyBR0 => (intro w hSw; (try dsimp only at hSw); go_simp; try with_reducible rfl)
        (try simp only [Act.put, List.setIfInBounds_toArray, List.set_cons_zero, List.set_cons_succ])
        refine wpAnyH_take (i := 1) (oi := { dst := some 58, op := Op.move (Operand.tmp 1), type := 32, pos := "ref.go:110", after := #[], guard := none }) (v := ?_) rfl (by kernel_rfl) (by kernel_rfl) (by kernel_rfl) (fun _ _ _ h => h) (Or.inl ⟨by rfl, ?hyBR1⟩) (by assumption) ?_
        case hyBR1 => (intro w hSw; (try dsimp only at hSw); go_simp; try with_reducible rfl)
        (try simp only [Act.put, List.setIfInBounds_toArray, List.set_cons_zero, List.set_cons_succ])
        refine wpAnyH_take (i := 2) (oi := { dst := some 59, op := Op.move (Operand.tmp 6), type := 3, pos := "ref.go:110", after := #[], guard := none }) (v := ?_) rfl (by kernel_rfl) (by kernel_rfl) (by kernel_rfl) (fun _ _ _ h => h) (Or.inl ⟨by rfl, ?hyBR2⟩) (by assumption) ?_
        case hyBR2 => (intro w hSw; (try dsimp only at hSw); go_simp; try with_reducible rfl)
        (try simp only [Act.put, List.setIfInBounds_toArray, List.set_cons_zero, List.set_cons_succ])
        refine wpAnyH_take (i := 3) (oi := { dst := some 60, op := Op.indexAddr 32 (Operand.tmp 58) (Operand.tmp 59), type := 0, pos := "ref.go:110", after := #[{ on := 1, ground := Ground.data }, { on := 2, ground := Ground.data }], guard := none }) (v := ?_) rfl (by kernel_rfl) (by kernel_rfl) (by kernel_rfl) (fun _ _ _ h => h) (Or.inl ⟨by rfl, ?hyBR3⟩) (by assumption) ?_
        case hyBR3 => (intro w hSw; (try dsimp only at hSw); go_simp; try with_reducible rfl)
        (try simp only [Act.put, List.setIfInBounds_toArray, List.set_cons_zero, List.set_cons_succ])
        refine wpAnyH_take (i := 4) (oi := { dst := some 61, op := Op.fieldAddr 112 (Operand.tmp 60) 1, type := 0, pos := "ref.go:110", after := #[{ on := 3, ground := Ground.data }], guard := none }) (v := ?_) rfl (by kernel_rfl) (by kernel_rfl) (by kernel_rfl) (fun _ _ _ h => h) (Or.inl ⟨by rfl, ?hyBR4⟩) (by assumption) ?_
        case hyBR4 => (intro w hSw; (try dsimp only at hSw); go_simp; try with_reducible rfl)
        (try simp only [Act.put, List.setIfInBounds_toArray, List.set_cons_zero, List.set_cons_succ])
        refine wpAnyH_take (i := 5) (oi := { dst := some 62, op := Op.load 110 (Operand.tmp 61), type := 110, pos := "ref.go:110", after := #[{ on := 4, ground := Ground.data }], guard := none }) (v := ?_) rfl (by kernel_rfl) (by kernel_rfl) (by kernel_rfl) (fun _ _ _ h => h) (Or.inl ⟨by rfl, ?hyBR5⟩) (by assumption) ?_
        case hyBR5 => (intro w hSw; (try dsimp only at hSw); go_simp; try with_reducible rfl)
        (try simp only [Act.put, List.setIfInBounds_toArray, List.set_cons_zero, List.set_cons_succ])
        refine wpAnyH_take (i := 6) (oi := { dst := some 63, op := Op.fieldAddr 125 (Operand.tmp 8) 0, type := 0, pos := "ref.go:110", after := #[], guard := none }) (v := ?_) rfl (by kernel_rfl) (by kernel_rfl) (by kernel_rfl) (fun _ _ _ h => h) (Or.inl ⟨by rfl, ?hyBR6⟩) (by assumption) ?_
        case hyBR6 => (intro w hSw; (try dsimp only at hSw); go_simp; try with_reducible rfl)
        (try simp only [Act.put, List.setIfInBounds_toArray, List.set_cons_zero, List.set_cons_succ])
        refine wpAnyH_take (i := 7) (oi := { dst := some 64, op := Op.load 3 (Operand.tmp 63), type := 3, pos := "ref.go:110", after := #[{ on := 6, ground := Ground.data }], guard := none }) (v := ?_) rfl (by kernel_rfl) (by kernel_rfl) (by kernel_rfl) (fun _ _ _ h => h) (Or.inl ⟨by rfl, ?hyBR7⟩) (by assumption) ?_
        case hyBR7 => (intro w hSw; (try dsimp only at hSw); go_simp; try with_reducible rfl)
        (try simp only [Act.put, List.setIfInBounds_toArray, List.set_cons_zero, List.set_cons_succ])
        refine wpAnyH_take (i := 8) (oi := { dst := some 65, op := Op.indexAddr 110 (Operand.tmp 62) (Operand.tmp 64), type := 0, pos := "ref.go:110", after := #[{ on := 5, ground := Ground.data }, { on := 7, ground := Ground.data }], guard := none }) (v := ?_) rfl (by kernel_rfl) (by kernel_rfl) (by kernel_rfl) (fun _ _ _ h => h) (Or.inl ⟨by rfl, ?hyBR8⟩) (by assumption) ?_
        case hyBR8 => (intro w hSw; (try dsimp only at hSw); go_simp; try with_reducible rfl)
        (try simp only [Act.put, List.setIfInBounds_toArray, List.set_cons_zero, List.set_cons_succ])
        refine wpAnyH_take (i := 9) (oi := { dst := some 66, op := Op.fieldAddr 115 (Operand.tmp 65) 0, type := 0, pos := "ref.go:110", after := #[{ on := 8, ground := Ground.data }], guard := none }) (v := ?_) rfl (by kernel_rfl) (by kernel_rfl) (by kernel_rfl) (fun _ _ _ h => h) (Or.inl ⟨by rfl, ?hyBR9⟩) (by assumption) ?_
        case hyBR9 => (intro w hSw; (try dsimp only at hSw); go_simp; try with_reducible rfl)
        (try simp only [Act.put, List.setIfInBounds_toArray, List.set_cons_zero, List.set_cons_succ])
        refine wpAnyH_take (i := 10) (oi := { dst := some 67, op := Op.load 9 (Operand.tmp 66), type := 9, pos := "ref.go:110", after := #[{ on := 9, ground := Ground.data }], guard := none }) (v := ?_) rfl (by kernel_rfl) (by kernel_rfl) (by kernel_rfl) (fun _ _ _ h => h) (Or.inl ⟨by rfl, ?hyBR10⟩) (by assumption) ?_
        case hyBR10 => (intro w hSw; (try dsimp only at hSw); go_simp; try with_reducible rfl)
        (try simp only [Act.put, List.setIfInBounds_toArray, List.set_cons_zero, List.set_cons_succ])
        refine wpAnyH_take (i := 12) (oi := { dst := some 69, op := Op.load 46 (Operand.tmp 9), type := 46, pos := "ref.go:110", after := #[], guard := none }) (v := ?_) rfl (by kernel_rfl) (by kernel_rfl) (by kernel_rfl) (fun _ _ _ h => h) (Or.inl ⟨by rfl, ?hyBR12⟩) (by assumption) ?_
        case hyBR12 => (intro w hSw; (try dsimp only at hSw); go_simp; try with_reducible rfl)
        (try simp only [Act.put, List.setIfInBounds_toArray, List.set_cons_zero, List.set_cons_succ])
        refine wpAnyH_ready (rs := [11]) (by kernel_rfl) (by simp) ?_
        refine AllReadyH.cons (o := { dst := some 68, op := Op.call { callee := Callee.value (Operand.func 62), args := #[Operand.tmp 67], argTypes := #[9] }, type := 46, pos := "ref.go:110", after := #[{ on := 10, ground := Ground.data }], guard := none }) rfl (fun K hK => ?_) AllReadyH.nil
        go_simp
        refine (HSy.out _ _).mono ?_
        rintro e wa ⟨rfl, hb⟩
        have hbA : Below Wd.heap.size Wd wa := below_undrawn hb
        refine hK.out _ _ ?_ (fun hHeldBRx => ?_)
        · obtain ⟨q0, q1, q2, q3, q4, q5, q6, q7⟩ := hHeldBR; exact ⟨keep_cell hb q0, keep_cell hb q1, keep_cell hb q2, keep_cell hb q3, keep_cell hb q4, keep_cell hb q5, keep_cell hb q6, keep_cell hb q7⟩
        clear hK K hb hHeldBR
        (try simp only [Act.put, List.setIfInBounds_toArray, List.set_cons_zero, List.set_cons_succ])
        refine wpAnyH_ready (rs := [13]) (by kernel_rfl) (by simp) ?_
        refine AllReadyH.cons (o := { dst := some 70, op := Op.buildSlice 24 2 #[(0, Operand.tmp 68), (1, Operand.tmp 69)], type := 24, pos := "ref.go:110", after := #[{ on := 11, ground := Ground.data }, { on := 12, ground := Ground.data }], guard := none }) rfl (fun K hK => ?_) AllReadyH.nil
        go_simp
        obtain ⟨PA, HPA⟩ : ∃ PA, Hid (wa.heap.size = PA) := ⟨_, rfl⟩
        obtain ⟨wb, Hwb⟩ : ∃ wb, Hid (wa.alloc (.cells #[.int .i64 2, .int .i64 0, .int .i64 0, .string nm, .slice none 0 0, .int .i64 pk, .int .i64 0, .int .i64 pi, .string ps, .slice pa pn pp] 46) = wb) := ⟨_, rfl⟩
        rw [Hwb.out, HPA.out]
        have hb : Below wa.heap.size wa wb := by rw [← Hwb.out]; exact alloc_below _ _
        have HBPA : Hid (Bx wb PA #[.int .i64 2, .int .i64 0, .int .i64 0, .string nm, .slice none 0 0, .int .i64 pk, .int .i64 0, .int .i64 pi, .string ps, .slice pa pn pp]) := Bx.made' Hwb.out HPA.out
        have hpPA : Wd.heap.size ≤ PA := by rw [← HPA.out]; exact hbA.size
        have hbB : Below Wd.heap.size Wd wb := next_trans hbA hb
        have HBPA2 : Hid (Below wa.heap.size wa wb) := hb
        refine hK.out _ _ ?_ (fun hHeldBRxa => ?_)
        · obtain ⟨q0, q1, q2, q3, q4, q5, q6, q7⟩ := hHeldBRx; exact ⟨keep_cell hb q0, keep_cell hb q1, keep_cell hb q2, keep_cell hb q3, keep_cell hb q4, keep_cell hb q5, keep_cell hb q6, keep_cell hb q7⟩
        clear hK K hb HPA Hwb hHeldBRx
        (try simp only [Act.put, List.setIfInBounds_toArray, List.set_cons_zero, List.set_cons_succ])
        refine wpAnyH_ready (rs := [14]) (by kernel_rfl) (by simp) ?_
        refine AllReadyH.cons (o := { dst := some 71, op := Op.call { callee := Callee.value (Operand.func 64), args := #[Operand.tmp 70], argTypes := #[24] }, type := 46, pos := "ref.go:110", after := #[{ on := 13, ground := Ground.data }, { on := 11, ground := Ground.chain }], guard := none }) rfl (fun K hK => ?_) AllReadyH.nil
        go_simp
        refine (HLs.out _ _ _ _).mono ?_
        rintro e wc ⟨rfl, hb⟩
        have HCA : Hid (Bx wc PA #[.int .i64 2, .int .i64 0, .int .i64 0, .string nm, .slice none 0 0, .int .i64 pk, .int .i64 0, .int .i64 pi, .string ps, .slice pa pn pp]) := HBPA.out.next hb
        have hbC : Below Wd.heap.size Wd wc := next_trans hbB hb
        refine hK.out _ _ ?_ (fun hHeldBRxax => ?_)
        · obtain ⟨q0, q1, q2, q3, q4, q5, q6, q7⟩ := hHeldBRxa; exact ⟨keep_cell hb q0, keep_cell hb q1, keep_cell hb q2, keep_cell hb q3, keep_cell hb q4, keep_cell hb q5, keep_cell hb q6, keep_cell hb q7⟩
        clear hK K hb hHeldBRxa
        (try simp only [Act.put, List.setIfInBounds_toArray, List.set_cons_zero, List.set_cons_succ])
        refine wpAnyH_ready (rs := [15]) (by kernel_rfl) (by simp) ?_
        refine AllReadyH.cons (o := { dst := some 72, op := Op.buildSlice 24 1 #[(0, Operand.tmp 71)], type := 24, pos := "ref.go:110", after := #[{ on := 14, ground := Ground.data }], guard := none }) rfl (fun K hK => ?_) AllReadyH.nil
        go_simp
        obtain ⟨PD, HPD⟩ : ∃ PD, Hid (wc.heap.size = PD) := ⟨_, rfl⟩
        obtain ⟨we, Hwe⟩ : ∃ we, Hid (wc.alloc (.cells #[.int .i64 0, .int .i64 0, .int .i64 0, .string ⟨#[]⟩, .slice (some ⟨PA, 0, none⟩) 2 2] 46) = we) := ⟨_, rfl⟩
        rw [Hwe.out, HPD.out]
        have hb : Below wc.heap.size wc we := by rw [← Hwe.out]; exact alloc_below _ _
        have HBPD : Hid (Bx we PD #[.int .i64 0, .int .i64 0, .int .i64 0, .string ⟨#[]⟩, .slice (some ⟨PA, 0, none⟩) 2 2]) := Bx.made' Hwe.out HPD.out
        have hpPD : Wd.heap.size ≤ PD := by rw [← HPD.out]; exact hbC.size
        have hbe : Below Wd.heap.size Wd we := next_trans hbC hb
        have HBPD2 : Hid (Below wc.heap.size wc we) := hb
        refine hK.out _ _ ?_ (fun hHeldBRxaxa => ?_)
        · obtain ⟨q0, q1, q2, q3, q4, q5, q6, q7⟩ := hHeldBRxax; exact ⟨keep_cell hb q0, keep_cell hb q1, keep_cell hb q2, keep_cell hb q3, keep_cell hb q4, keep_cell hb q5, keep_cell hb q6, keep_cell hb q7⟩
        clear hK K hb HPD Hwe hHeldBRxax
        (try simp only [Act.put, List.setIfInBounds_toArray, List.set_cons_zero, List.set_cons_succ])
        have hbz : Below W5.heap.size W5 we := next_trans hbd hbe
        have HTe : Hid (RnW w we tn (some ⟨b, o, none⟩) C pc (.slice vao vn vcap) cs (kidsP tl tn (l.take k))) := HTz.out.next hbz
        have HOw : Hid (we.ownsRow (w.heap.size + 2) 46 5 (.slice vao vn vcap) cs.length (ncsC cs)) := HTe.out.own
        have hlwe : w.heap.size + 1 < we.heap.size := HTe.out.r.lt
        obtain ⟨i0, hi, hz0, hz1, hz2⟩ := inRN'
        refine wpAnyH_ready (rs := [16]) (by kernel_rfl) (by simp) ?_
        refine AllReadyH.cons (o := { dst := some 73, op := Op.call { callee := Callee.builtin Builtin.append, args := #[Operand.tmp 57, Operand.tmp 72], argTypes := #[24, 24] }, type := 24, pos := "ref.go:110", after := #[{ on := 0, ground := Ground.data }, { on := 15, ground := Ground.data }, { on := 14, ground := Ground.chain }], guard := none }) rfl (fun K hK => ?_) AllReadyH.nil
        refine step_append_lies _ (by rfl) _ _ _ (by rfl) (w.heap.size + 2) 46 i0 zeroNd 5 64 Tryz.underlying24 hi hz0 hz1 hz2 rfl (by decide) (.slice vao vn vcap) cs.length (ncsC cs) (by rfl) HOw.out ⟨PD, 0, none⟩ 1 1 [.int .i64 0, .int .i64 0, .int .i64 0, .string ⟨#[]⟩, .slice (some ⟨PA, 0, none⟩) 2 2] (by rfl) (by rfl) (bx_news HBPD.out) (by simp [Value.oneCell']) (by decide) (by unfold maxLen; omega) (by omega) (by omega) we.heap.size rfl ?_
        intro gk gcap wf hown hgrow hat hlt9
        have hob2 : ∀ j, (Value.slice vao vn vcap).ownBlock = some j → w.heap.size + 2 ≤ j ∧ j < BT := fun j hj => by rw [← HBT.out]; exact HOb.out j hj
        have hlbw : lb < w.heap.size := World.block_lt_of_cell? w _ HD.out
        have hsbw : sb < w.heap.size := HSb.out
        obtain ⟨q0, q1, q2, q3, q4, q5, q6, q7⟩ := id hHeldBRxaxa
        have kp : ∀ j p u, (j < w.heap.size ∨ BT ≤ j) → we.cell? ⟨j, p, none⟩ = some u → wf.cell? ⟨j, p, none⟩ = some u := fun j p u h1 h2 => hgrow.cell h2 (fun e => by have h3 := hob2 _ e.symm; simp only at h3; omega)
        have hgz := hgrow.size
        have hbr : Below wr.heap.size wr we := next_trans HB5.out hbz
        have HBf : Hid (Below w.heap.size w wf) := by
          have hs := HTe.out.bel.size
          exact HTe.out.bel.trans ((Below.refl _ we).grown hgrow (by omega) (fun j hj => by have := (hob2 j hj).1; omega))
        refine hK.out _ _ ?_ (fun hHeldBRxaxag => ?_)
        · refine ⟨kp _ _ _ (.inr (by omega)) q0, kp _ _ _ (.inl hlbw) q1, kp _ _ _ (.inl hsbw) q2, kp _ _ _ (.inr (by omega)) q3, kp _ _ _ (.inr (by omega)) q4, kp _ _ _ (.inr (by omega)) q5, kp _ _ _ (.inr (by omega)) q6, kp _ _ _ (.inr (by omega)) q7⟩
        clear hK K hHeldBRxaxa
        (try simp only [Act.put, List.setIfInBounds_toArray, List.set_cons_zero, List.set_cons_succ])
        refine wpAnyH_take (i := 17) (oi := { dst := some 5, op := Op.assign (Operand.tmp 73), type := 24, pos := "ref.go:110", after := #[{ on := 16, ground := Ground.data }, { on := 16, ground := Ground.chain }, { on := 0, ground := Ground.phase }, { on := 1, ground := Ground.phase }, { on := 2, ground := Ground.phase }, { on := 3, ground := Ground.phase }, { on := 4, ground := Ground.phase }, { on := 5, ground := Ground.phase }, { on := 6, ground := Ground.phase }, { on := 7, ground := Ground.phase }, { on := 8, ground := Ground.phase }, { on := 9, ground := Ground.phase }, { on := 10, ground := Ground.phase }, { on := 11, ground := Ground.phase }, { on := 12, ground := Ground.phase }, { on := 13, ground := Ground.phase }, { on := 14, ground := Ground.phase }, { on := 15, ground := Ground.phase }, { on := 16, ground := Ground.phase }], guard := none }) (v := ?_) rfl (by kernel_rfl) (by kernel_rfl) (by kernel_rfl) (fun _ _ _ h => h) (Or.inl ⟨by rfl, ?hyBR17⟩) (by assumption) ?_
        case hyBR17 => (intro w hSw; (try dsimp only at hSw); go_simp; try with_reducible rfl)
        (try simp only [Act.put, List.setIfInBounds_toArray, List.set_cons_zero, List.set_cons_succ])
        refine wpAnyH_done (by kernel_rfl) ?_ _
        have HCA2 : Hid (Bx we PA #[.int .i64 2, .int .i64 0, .int .i64 0, .string nm, .slice none 0 0, .int .i64 pk, .int .i64 0, .int .i64 pi, .string ps, .slice pa pn pp]) := HCA.out.next HBPD2.out
        have HCk : Hid (NcIs we (offB (w.heap.size + 2) (.slice vao vn vcap)) ⟨0, 0, 0, [], some ⟨PA, 0, none⟩, 2, 2⟩ S9) := by
          rw [Hid, HNe.out]
          refine pair_nd (c := ⟨pk, 0, pi, ps.data.toList, pa, pn, pp⟩) ?_ ⟨by omega, fun e => by have := (hob2 _ e).2; omega⟩ ?_
          · show Bx we PA (#[.int .i64 2, .int .i64 0, .int .i64 0, .string (baL nm.data.toList), .slice none 0 0, .int .i64 pk, .int .i64 0, .int .i64 pi, .string (baL ps.data.toList), .slice pa pn pp])
            simp only [ba_self]
            exact HCA2.out
          · exact (HCy.out.keep fun j hj _ => ⟨rfl, by have hj' : BT ≤ j := hj; omega, fun e => by have := (hob2 _ e).2; have hj' : BT ≤ j := hj; omega⟩).next hbz
        have HN9 : Hid (RnW w wf tn (some ⟨b, o, none⟩) C pc (.slice (some ⟨gk, 0, none⟩) (cs.length + 1) gcap) (cs ++ [(⟨0, 0, 0, [], some ⟨PA, 0, none⟩, 2, 2⟩ : Nc)]) (kidsP tl tn (l.take (k + 1)))) := by
          have hgb : ∀ j, j < w.heap.size + 2 → wf.heap[j]? = we.heap[j]? := fun j hj => hgrow.block j (by omega) (fun e => by have := (hob2 j e.symm).1; omega)
          refine ⟨HBf.out, HTe.out.x.keep (hgb _ (by omega)), HTe.out.r.keep (hgb _ (by omega)), ?_, ?_⟩
          · rw [← ncs_snoc, List.length_append]; exact hown
          · rw [HKt.out]
            exact ncs_grow (NcsIs.snoc HCk.out HTe.out.kids) hgrow hat rfl
        clear hown hgrow hat HCk HCA HCA2 HTe HOw HKt HNe HCy HTz hbz hbr hbe hbd kp hob2 t0 r1 n0 z0 z1 z2 z3 z4 q0 q1 q2 q3 q4 q5 q6 q7
        go_wp2
        go_roundw
        case rel => exact ⟨k + 1, _, by omega, by go_num, HN9⟩
        case measure => simp [intOf]; omega
    · have hki : ¬ (k : Int) < (C : Int) := by omega
      obtain ⟨lao, lcap, hv, hvc, hnd⟩ := own_nds (S := geB (w.heap.size + 2)) HT.out.own (HT.out.kids.keep fun j hj _ => ⟨rfl, hj.1⟩) (fun j hj _ => hj)
      rw [List.take_of_length_le (by rw [HC.out]; omega)] at hnd hv hvc
      obtain ⟨Z, hZ⟩ : ∃ Z, (kidsP tl tn l).length = Z := ⟨_, rfl⟩
      rw [hZ] at hv hvc
      injection hv with hv1 hv2 hv3
      subst hv1 hv2 hv3
      have HND : Hid (IsNds wr (geB (w.heap.size + 2)) vao (kidsP tl tn l)) := hnd
      clear hnd
      go_wp2_with fail
      refine (HLs.out _ _ _ _).mono ?_
      rintro e w5 ⟨rfl, hb5⟩
      have HT5 := HT.out.next hb5
      have r0 : w5.cell? ⟨w.heap.size + 1, 0, none⟩ = some (.int .i64 0) := HT5.r.cell 0
      have r1 : w5.cell? ⟨w.heap.size + 1, 1, none⟩ = some (.int .i64 0) := HT5.r.cell 1
      have r2 : w5.cell? ⟨w.heap.size + 1, 2, none⟩ = some (.int .i64 0) := HT5.r.cell 2
      have r3 : w5.cell? ⟨w.heap.size + 1, 3, none⟩ = some (.string ⟨#[]⟩) := HT5.r.cell 3
      have r4 : w5.cell? ⟨w.heap.size + 1, 4, none⟩ = some (.slice none 0 0) := HT5.r.cell 4
      have rf := HT5.r.froz
      have HNc : Hid (NcIs w5 (geB (w.heap.size + 2)) ⟨0, 0, 0, [], vao, vn, vcap⟩ x) := by
        rw [Hid, ← HX.out]
        exact ⟨rfl, rfl, rfl, rfl, hZ.symm, hvc, HND.out.next hb5⟩
      have HB5 : Hid (Below w.heap.size w w5) := HT5.bel
      clear hb5 HT5 HT HND hZ
      go_wp2
      exact bodyPost_ret (v := .agg #[.int .i64 (0), .int .i64 (0), .int .i64 (0), .string (⟨#[]⟩), .slice vao vn vcap]) (by simp [results, Tryz.results21, go_sem, r0, r1, r2, r3, r4]) rfl (mk_done HNc.out (by omega) (by omega) _ _ _ _ _ _ rfl HB5.out)
end Go.Proofs.YtnhbjhdkpbhioaaGreatDoor
