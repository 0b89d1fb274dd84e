import Derived.Test.YtnhbjhdkpbhioaaGreatDoorH1
import Derived.Test.YtnhbjhdkpbhioaaGreatDoorG26
import Derived.Deep.RegionLaw
namespace Go.Proofs.YtnhbjhdkpbhioaaGreatDoor
open Go.RowKit
set_option maxHeartbeats 8000000 in
set_option maxRecDepth 8000 in
theorem tterm_any (t : Ts) (w : World) :
    Calls Tryz.prog 60 #[tsV t] w fun e w' => MkR w w' e (termNd t) ∧ Below w.heap.size w w' := by
  obtain ⟨x, HX⟩ : ∃ x, Hid (termNd t = x) := ⟨_, rfl⟩
  rw [HX.out]
  obtain ⟨tp, tn, tv, tk, ti, ts⟩ := t
  unfold tsV
  simp only
  by_cases hx : tv = noS
  · have he := isE_yes hx
    have HP : Hid (plainNd ⟨tp, tn, tv, tk, ti, ts⟩ = ⟨tk, 0, ti, ts.data.toList, []⟩) := by rw [Hid]; unfold plainNd; exact if_pos hx
    clear hx
    cases tn with
    | false =>
      have HXv : Hid (x = ⟨tk, 0, ti, ts.data.toList, []⟩) := by rw [Hid, ← HX.out, ← HP.out]; rfl
      clear HX HP
      go_enter Tryz.func60, Tryz.ntmps60
      go_wp2
      refine bodyPost_ret (v := .agg #[.int .i64 (tk), .int .i64 (0), .int .i64 (ti), .string (ts), .slice none 0 0]) (by simp [results, Tryz.results60, go_sem]) rfl ⟨⟨⟨tk, 0, ti, ts.data.toList, none, 0, 0⟩, ?_, ?_⟩, ?_⟩
      · unfold nodeV; simp only; rw [ba_self]; rfl
      · rw [HXv.out]; exact NcIs.leaf _ _ _ _ _ _
      · exact next_trans (next_trans (alloc_below _ _) (alloc_below _ _)) (alloc_below _ _)
    | true =>
      have HXv : Hid (x = ⟨8, 0, 0, [], [⟨tk, 0, ti, ts.data.toList, []⟩]⟩) := by rw [Hid, ← HX.out, ← HP.out]; rfl
      clear HX HP
      go_enter Tryz.func60, Tryz.ntmps60
      go_wp2
      refine bodyPost_ret (v := .agg #[.int .i64 (8), .int .i64 (0), .int .i64 (0), .string (⟨#[]⟩), .slice (some ⟨w.heap.size + 1 + 1 + 1, 0, none⟩) 1 1]) (by simp [results, Tryz.results60, go_sem]) rfl ⟨⟨⟨8, 0, 0, [], some ⟨w.heap.size + 1 + 1 + 1, 0, none⟩, 1, 1⟩, rfl, ?_⟩, ?_⟩
      · rw [HXv.out]
        refine ⟨rfl, rfl, rfl, rfl, rfl, Nat.le_refl _, ?_⟩
        refine lit_nds (L := [⟨tk, 0, ti, ts.data.toList, none, 0, 0⟩]) ?_ (by unfold geB; omega) ⟨NcIs.leaf _ _ _ _ _ _, trivial⟩
        show Bx _ _ #[.int .i64 tk, .int .i64 0, .int .i64 ti, .string (baL ts.data.toList), .slice none 0 0]
        rw [ba_self]
        exact Bx.made' rfl (by simp)
      · exact next_trans (next_trans (next_trans (alloc_below _ _) (alloc_below _ _)) (alloc_below _ _)) (alloc_below _ _)
  · have he := isE_no hx
    have HP : Hid (plainNd ⟨tp, tn, tv, tk, ti, ts⟩ = ⟨6, 0, 0, tv.data.toList, []⟩) := by rw [Hid]; unfold plainNd; exact if_neg hx
    clear hx
    cases tn with
    | false =>
      have HXv : Hid (x = ⟨6, 0, 0, tv.data.toList, []⟩) := by rw [Hid, ← HX.out, ← HP.out]; rfl
      clear HX HP
      go_enter Tryz.func60, Tryz.ntmps60
      go_wp2
      refine bodyPost_ret (v := .agg #[.int .i64 (6), .int .i64 (0), .int .i64 (0), .string (tv), .slice none 0 0]) (by simp [results, Tryz.results60, go_sem]) rfl ⟨⟨⟨6, 0, 0, tv.data.toList, none, 0, 0⟩, ?_, ?_⟩, ?_⟩
      · unfold nodeV; simp only; rw [ba_self]; rfl
      · rw [HXv.out]; exact NcIs.leaf _ _ _ _ _ _
      · exact next_trans (next_trans (alloc_below _ _) (alloc_below _ _)) (alloc_below _ _)
    | true =>
      have HXv : Hid (x = ⟨8, 0, 0, [], [⟨6, 0, 0, tv.data.toList, []⟩]⟩) := by rw [Hid, ← HX.out, ← HP.out]; rfl
      clear HX HP
      go_enter Tryz.func60, Tryz.ntmps60
      go_wp2
      refine bodyPost_ret (v := .agg #[.int .i64 (8), .int .i64 (0), .int .i64 (0), .string (⟨#[]⟩), .slice (some ⟨w.heap.size + 1 + 1 + 1, 0, none⟩) 1 1]) (by simp [results, Tryz.results60, go_sem]) rfl ⟨⟨⟨8, 0, 0, [], some ⟨w.heap.size + 1 + 1 + 1, 0, none⟩, 1, 1⟩, rfl, ?_⟩, ?_⟩
      · rw [HXv.out]
        refine ⟨rfl, rfl, rfl, rfl, rfl, Nat.le_refl _, ?_⟩
        refine lit_nds (L := [⟨6, 0, 0, tv.data.toList, none, 0, 0⟩]) ?_ (by unfold geB; omega) ⟨NcIs.leaf _ _ _ _ _ _, trivial⟩
        show Bx _ _ #[.int .i64 6, .int .i64 0, .int .i64 0, .string (baL tv.data.toList), .slice none 0 0]
        rw [ba_self]
        exact Bx.made' rfl (by simp)
      · exact next_trans (next_trans (next_trans (alloc_below _ _) (alloc_below _ _)) (alloc_below _ _)) (alloc_below _ _)
end Go.Proofs.YtnhbjhdkpbhioaaGreatDoor
namespace Go.Proofs.YtnhbjhdkpbhioaaGreatDoor
open Go.RowKit
structure PnW (w wr : World) (B0 TT : Nat) (tn : ByteArray) (to : Option Addr) (N tc : Nat) (v : Value) (cs : List Nc) (xs : List Nd) : Prop where
  bel : Below w.heap.size w wr
  r : Bx wr (w.heap.size + 1) #[.int .i64 0, .int .i64 0, .int .i64 0, .string ⟨#[]⟩, .slice none 0 0]
  t : Bx wr TT #[.string tn, .slice to N tc]
  own : wr.ownsRow B0 43 5 v cs.length (ncsC cs)
  kids : NcsIs wr (offB B0 v) cs xs
  l1 : w.heap.size + 1 < TT
  l2 : TT < B0
theorem PnW.next {w wr w' : World} {B0 TT : Nat} {tn : ByteArray} {to : Option Addr} {N tc : Nat} {v : Value} {cs : List Nc} {xs : List Nd} (h : PnW w wr B0 TT tn to N tc v cs xs) (hb : Below wr.heap.size wr w') : PnW w w' B0 TT tn to N tc v cs xs :=
  ⟨next_trans h.bel hb, h.r.next hb, h.t.next hb, own_next h.own hb, h.kids.next hb, h.l1, h.l2⟩
def kidsP (T : List Sl) (tn : ByteArray) (l : List Ts) : List Nd := tsym tn.data.toList :: l.map (tsNd T)
theorem kidsP_snoc {T : List Sl} {tn : ByteArray} {l : List Ts} {k : Nat} {s : Ts} (h : l[k]? = some s) : kidsP T tn (l.take (k + 1)) = kidsP T tn (l.take k) ++ [tsNd T s] := by
  obtain ⟨hk, e⟩ := List.getElem?_eq_some_iff.1 h
  unfold kidsP
  rw [List.take_succ_eq_append_getElem hk, e, List.map_append]; rfl
theorem pair_nd {w : World} {S : Nat → Prop} {b : Nat} {nm : ByteArray} {c : Nc} {x : Nd} (hx : Bx w b (ncsC [⟨2, 0, 0, nm.data.toList, none, 0, 0⟩, c]).toArray) (hS : S b) (hc : NcIs w S c x) : NcIs w S ⟨0, 0, 0, [], some ⟨b, 0, none⟩, 2, 2⟩ ⟨0, 0, 0, [], [tsym nm.data.toList, x]⟩ :=
  ⟨rfl, rfl, rfl, rfl, rfl, Nat.le_refl _, lit_nds hx hS ⟨nc_sym _ _ _, hc, trivial⟩⟩
set_option maxHeartbeats 16000000 in
set_option maxRecDepth 8000 in
theorem pnode_any (L : List Tp) (LN : Nat) (lo : Option Addr) (lc : Nat) (P : Ptn) (po : Option Addr) (pc q : Nat) (w : World) (hLN : L.length = LN) (hL : LN ≤ 1000) (hT : ∀ t ∈ L, t.l.length ≤ 1000) (ht : IsTps w lo L) (hq : plT L P.t = some q) (hP : P.l.length ≤ 1000) (hs : IsTss w po P.l) (hlt : ∀ t ∈ P.l, t.p < (slotsAt L q).length) :
    Calls Tryz.prog 17 #[ptV P po pc, .slice lo LN lc] w fun e w' => MkR w w' e (ptNd (slotsAt L q) P) ∧ Below w.heap.size w w' := by
  obtain ⟨pt, l⟩ := P
  unfold ptV
  simp only at hq hP hs hlt ⊢
  obtain ⟨x, HX⟩ : ∃ x, Hid (ptNd (slotsAt L q) ⟨pt, l⟩ = x) := ⟨_, rfl⟩
  rw [HX.out]
  obtain ⟨C, HC⟩ : ∃ C, Hid (l.length = C) := ⟨_, rfl⟩
  rw [HC.out] at hP ⊢
  obtain ⟨T, HT⟩ : ∃ T, Hid (tpAt L pt = T) := ⟨_, rfl⟩
  have HTs : Hid (T.l = slotsAt L q ∧ T.n = pt) := by rw [← HT.out]; exact tpAt_slots hq
  have HPF : Hid (∀ w', Below w.heap.size w w' → Calls Tryz.prog 45 #[.slice lo LN lc, .string pt] w' fun e w2 => (∃ to tc, e = .returned (.tuple #[tmV T to tc, .bool true]) ∧ IsSls w' to T.l) ∧ Below w'.heap.size w' w2) := by
    intro w' h
    have := pfind_any L LN lo lc pt w' hLN hL (ht.next h)
    rw [HT.out, hq] at this
    exact this
  obtain ⟨tn, tl⟩ := T
  simp only at HTs
  have htl : tl.length ≤ 1000 := by
    obtain ⟨t, h1, h2, _⟩ := plT_some L pt q hq
    have h3 := hT t (List.mem_of_getElem? h1)
    have h4 := tpAt_at hq h1
    rw [HT.out] at h4
    rw [← h4] at h3
    exact h3
  obtain ⟨htl1, htn⟩ := HTs.out
  subst htn
  rw [← htl1] at hlt HX
  obtain ⟨N, HN⟩ : ∃ N, Hid (tl.length = N) := ⟨_, rfl⟩
  have HLt : Hid (∀ t ∈ l, t.p < N) := by rw [Hid, ← HN.out]; exact hlt
  have HI : Hid (IsTss w po l) := hs
  unfold tmV at HPF
  simp only at HPF
  rw [HN.out] at HPF
  have HSy : Hid (∀ (Y : ByteArray) (w : World), Calls Tryz.prog 57 #[.string Y] w fun e w' => e = .returned (.agg #[.int .i64 (2), .int .i64 (0), .int .i64 (0), .string (Y), .slice none 0 0]) ∧ Below w.heap.size w w') := psymbol_any
  obtain ⟨W, HWe⟩ : ∃ W, Hid ((w.alloc (.cells #[.string tn, .slice po C pc] 36)).alloc (.cells #[.int .i64 0, .int .i64 0, .int .i64 0, .string ⟨#[]⟩, .slice none 0 0] 43) = W) := ⟨_, rfl⟩
  have HB : Hid (Below w.heap.size w W) := by rw [← HWe.out]; exact next_trans (alloc_below _ _) (alloc_below _ _)
  have HPb : Hid (Bx W w.heap.size #[.string tn, .slice po C pc]) := by rw [← HWe.out]; exact (Bx.made _ _ _).alloc _
  have HRb : Hid (Bx W (w.heap.size + 1) #[.int .i64 0, .int .i64 0, .int .i64 0, .string ⟨#[]⟩, .slice none 0 0]) := Bx.made' HWe.out (by simp)
  have x0 : W.cell? ⟨w.heap.size, 0, none⟩ = some (.string tn) := HPb.out.cell 0
  clear hLN hL hT ht hq hs hlt HT HTs htl1
  go_enter Tryz.func17, Tryz.ntmps17
  go_wp2_with fail
  rw [HWe.out]
  clear HWe
  refine (HPF.out W HB.out).mono ?_
  rintro e w1 ⟨⟨to, tc, rfl, hs1⟩, hb1⟩
  have hl1 : w.heap.size + 1 < w1.heap.size := (HRb.out.next hb1).lt
  have x0 : w1.cell? ⟨w.heap.size, 0, none⟩ = some (.string tn) := (HPb.out.next hb1).cell 0
  have HSl : Hid (∀ w', Below w1.heap.size w1 w' → IsSls w' to tl) := fun w' h => (hs1.next hb1).next h
  have HB1 : Hid (Below w.heap.size w w1) := next_trans HB.out hb1
  have HP1 : Hid (Bx w1 w.heap.size #[.string tn, .slice po C pc]) := HPb.out.next hb1
  have HR1 : Hid (Bx w1 (w.heap.size + 1) #[.int .i64 0, .int .i64 0, .int .i64 0, .string ⟨#[]⟩, .slice none 0 0]) := HRb.out.next hb1
  have hl0 : w.heap.size < w1.heap.size := by omega
  clear hb1 hs1 HPF HB HPb HRb
  go_wp2_with fail
  refine (HSy.out tn _).mono ?_
  rintro e w2 ⟨rfl, hb2⟩
  obtain ⟨TT, HTT⟩ : ∃ TT, Hid (w1.heap.size = TT) := ⟨_, rfl⟩
  have hb12 : Below w1.heap.size w1 w2 := next_trans (alloc_below _ _) hb2
  have HT2 : Hid (Bx w2 TT #[.string tn, .slice to N tc]) := by rw [← HTT.out]; exact (Bx.made _ _ _).next hb2
  have HP2 : Hid (Bx w2 w.heap.size #[.string tn, .slice po C pc]) := HP1.out.next hb12
  have hl2 : w.heap.size < w2.heap.size := HP2.out.lt
  have x1 : w2.cell? ⟨w.heap.size, 1, none⟩ = some (.slice po C pc) := HP2.out.cell 1
  have HI0 : Hid (PnW w (w2.alloc (.cells #[.int .i64 2, .int .i64 0, .int .i64 0, .string tn, .slice none 0 0] 43)) (TT + 1) TT tn to N tc (.slice (some ⟨w2.heap.size, 0, none⟩) 1 1) [⟨2, 0, 0, tn.data.toList, none, 0, 0⟩] (kidsP tl tn (l.take 0))) := by
    have hlT : TT + 1 ≤ w2.heap.size := HT2.out.lt
    refine ⟨next_trans (next_trans HB1.out hb12) (alloc_below _ _), (HR1.out.next hb12).alloc _, HT2.out.alloc _, ?_, ⟨nc_sym _ _ _, trivial⟩, by rw [← HTT.out]; exact hl1, Nat.lt_succ_self _⟩
    · have := World.ownsRow_lit (base := TT + 1) (e := 43) (size := 5) w2 #[.int .i64 2, .int .i64 0, .int .i64 0, .string tn, .slice none 0 0] 1 hlT (by unfold maxLen; omega) rfl
      have e : ncsC [⟨2, 0, 0, tn.data.toList, none, 0, 0⟩] = (#[.int .i64 2, .int .i64 0, .int .i64 0, .string tn, .slice none 0 0] : Array Value).toList := by
        show [Value.int .i64 2, .int .i64 0, .int .i64 0, .string (baL tn.data.toList), .slice none 0 0] = _
        rw [ba_self]
      rw [e]; exact this
  have HB02 : Hid (Below w1.heap.size w1 (w2.alloc (.cells #[.int .i64 2, .int .i64 0, .int .i64 0, .string tn, .slice none 0 0] 43))) := next_trans hb12 (alloc_below _ _)
  clear hb2 hb12 HP1 HR1 HB1 HT2 HP2 x0
  go_wp2
  clear x1 hl2
  rw [HTT.out]
  go_loopw [7, 24] (fun v q wr => ∃ (k : Nat) (cs : List Nc), k ≤ C ∧ q = .int .i64 k ∧ Hid (Below w1.heap.size w1 wr) ∧ Hid (PnW w wr (TT + 1) TT tn to N tc v cs (kidsP tl tn (l.take k)))) (fun _ q _ => C - (intOf q).toNat)
  case atStart => exact ⟨0, _, Nat.zero_le _, rfl, HB02, HI0⟩
  case round =>
    obtain ⟨k, cs, hk, rfl, HBr, HT⟩ := hrel
    clear HI0 HB02
    obtain ⟨vao, vn, vcap, hv⟩ : ∃ vao vn vcap, u7 = .slice vao vn vcap := by
      rcases HT.out.own.2 with ⟨e, _⟩ | ⟨gg, cap, cur, e, _⟩
      · exact ⟨_, _, _, e⟩
      · exact ⟨_, _, _, e⟩
    subst hv
    have hlr : w.heap.size + 1 < wr.heap.size := HT.out.r.lt
    have hlT : TT < wr.heap.size := HT.out.t.lt
    by_cases hlt : k < C
    · have hki : (k : Int) < (C : Int) := by omega
      have hk0 : (0 : Int) ≤ (k : Int) := by omega
      obtain ⟨s, hs⟩ : ∃ s, l[k]? = some s := ⟨_, List.getElem?_eq_getElem (by rw [HC.out]; exact hlt)⟩
      obtain ⟨b, o, rfl, c0, c1, c2, c3, c4, c5⟩ := (HI.out.next HT.out.bel) k s hs
      have HKs : Hid (kidsP tl tn (l.take (k + 1)) = kidsP tl tn (l.take k) ++ [tsNd tl s]) := kidsP_snoc hs
      have hpN := HLt.out s (List.mem_of_getElem? hs)
      obtain ⟨tp, tnn, tv, tk, ti, ts⟩ := s
      simp only at c0 c1 c2 c3 c4 c5 hpN
      obtain ⟨sl, hsl⟩ : ∃ sl, tl[tp]? = some sl := ⟨_, List.getElem?_eq_getElem (by rw [HN.out]; exact hpN)⟩
      have hnm : nmAt tl tp = sl.n := by unfold nmAt; rw [hsl]
      obtain ⟨sb, so, rfl, n0, _, _, _⟩ := HSl.out wr HBr.out tp sl hsl
      obtain ⟨nm, Hnm⟩ : ∃ nm, Hid (sl.n = nm) := ⟨_, rfl⟩
      rw [Hnm.out] at n0 hnm
      have HNd : Hid (tsNd tl ⟨tp, tnn, tv, tk, ti, ts⟩ = ⟨0, 0, 0, [], [tsym nm.data.toList, termNd ⟨tp, tnn, tv, tk, ti, ts⟩]⟩) := by rw [Hid]; unfold tsNd; simp only; rw [hnm]
      have hpi : (tp : Int) < (N : Int) := by omega
      have hp0 : (0 : Int) ≤ (tp : Int) := by omega
      have HHas : Hid (∀ w', Calls Tryz.prog 58 #[.slice (some ⟨sb, so, none⟩) N tc, .int .i64 (tp : Int)] w' fun e w2 => e = .returned (.bool true) ∧ w2 = w') := by
        intro w'; have := hassl_any (some ⟨sb, so, none⟩) N tc tp w'; rw [decide_eq_true hpN] at this; exact this
      have HTe : Hid (∀ w', Calls Tryz.prog 60 #[.agg #[.int .i64 (tp : Int), .bool tnn, .string tv, .int .i64 tk, .int .i64 ti, .string ts]] w' fun e w2 => MkR w' w2 e (termNd ⟨tp, tnn, tv, tk, ti, ts⟩) ∧ Below w'.heap.size w' w2) := fun w' => tterm_any ⟨tp, tnn, tv, tk, ti, ts⟩ w'
      have hcl : cs.length ≤ 2000 := by
        have h1 := HT.out.kids.len
        unfold kidsP at h1
        rw [List.length_cons, List.length_map, List.length_take] at h1
        omega
      obtain ⟨W3, HW3⟩ : ∃ W3, Hid (wr.alloc (.cells #[.int .i64 (tp : Int), .bool tnn, .string tv, .int .i64 tk, .int .i64 ti, .string ts] 88) = W3) := ⟨_, rfl⟩
      obtain ⟨BT, HBT⟩ : ∃ BT, Hid (wr.heap.size = BT) := ⟨_, rfl⟩
      have HTb : Hid (Bx W3 BT #[.int .i64 (tp : Int), .bool tnn, .string tv, .int .i64 tk, .int .i64 ti, .string ts]) := Bx.made' HW3.out HBT.out
      have HT3 : Hid (PnW w W3 (TT + 1) TT tn (some ⟨sb, so, none⟩) N tc (.slice vao vn vcap) cs (kidsP tl tn (l.take k))) := by rw [← HW3.out]; exact HT.out.next (alloc_below _ _)
      have HBr3 : Hid (Below w1.heap.size w1 W3) := by rw [← HW3.out]; exact next_trans HBr.out (alloc_below _ _)
      have n0 : W3.cell? ⟨sb, so + tp * 4, none⟩ = some (.string nm) := by rw [← HW3.out]; exact alloc_cell n0
      have y1 : wr.cell? ⟨TT, 1, none⟩ = some (.slice (some ⟨sb, so, none⟩) N tc) := HT.out.t.cell 1
      have HOb : Hid (∀ j, (Value.slice vao vn vcap).ownBlock = some j → TT + 1 ≤ j ∧ j < BT) := fun j hj => by rw [← HBT.out]; exact HT.out.own.lt j hj
      clear hs hsl hnm
      go_wp2_with fail
      rw [HW3.out, HBT.out]
      refine (HHas.out W3).mono ?_
      rintro e w3 ⟨rfl, rfl⟩
      have HW3s := HW3
      have HBTs := HBT
      have y1 : w3.cell? ⟨TT, 1, none⟩ = some (.slice (some ⟨sb, so, none⟩) N tc) := HT3.out.t.cell 1
      have s0 : w3.cell? ⟨BT, 0, none⟩ = some (.int .i64 (tp : Int)) := HTb.out.cell 0
      have s1 : w3.cell? ⟨BT, 1, none⟩ = some (.bool tnn) := HTb.out.cell 1
      have s2 : w3.cell? ⟨BT, 2, none⟩ = some (.string tv) := HTb.out.cell 2
      have s3 : w3.cell? ⟨BT, 3, none⟩ = some (.int .i64 tk) := HTb.out.cell 3
      have s4 : w3.cell? ⟨BT, 4, none⟩ = some (.int .i64 ti) := HTb.out.cell 4
      have s5 : w3.cell? ⟨BT, 5, none⟩ = some (.string ts) := HTb.out.cell 5
      clear HW3 HT HBr c0 c1 c2 c3 c4 c5 HHas
      obtain ⟨i0, hi, hz0, hz1', hz2'⟩ := inN'
      have HOw : Hid (w3.ownsRow (TT + 1) 43 5 (.slice vao vn vcap) cs.length (ncsC cs)) := HT3.out.own
      have z0 : Below w3.heap.size w3 w3.drew := (Below.refl _ _).drew
      have hlT3 : TT < w3.heap.size := HT3.out.t.lt
      go_wp2_with fail
      go_region_law (first
        | (go_simp; go_at_call 57; refine (HSy.out _ _).mono ?_; rintro e w4 ⟨rfl, hb4⟩; have hb34 : Below w3.heap.size w3 w4 := (by first | exact next_trans z0 hb4 | exact below_undrawn hb4 | exact hb4); have HTb4 := HTb.out.next hb34; have s0 : w4.cell? ⟨BT, 0, none⟩ = some (.int .i64 (tp : Int)) := HTb4.cell 0; have s1 : w4.cell? ⟨BT, 1, none⟩ = some (.bool tnn) := HTb4.cell 1; have s2 : w4.cell? ⟨BT, 2, none⟩ = some (.string tv) := HTb4.cell 2; have s3 : w4.cell? ⟨BT, 3, none⟩ = some (.int .i64 tk) := HTb4.cell 3; have s4 : w4.cell? ⟨BT, 4, none⟩ = some (.int .i64 ti) := HTb4.cell 4; have s5 : w4.cell? ⟨BT, 5, none⟩ = some (.string ts) := HTb4.cell 5)
        | (go_simp; go_at_call 60; refine (HTe.out _).mono ?_; rintro e w5 ⟨⟨⟨ck, ca, ci, css, cao, cn, ccap⟩, rfl, hcc⟩, hb5⟩; have hb35 : Below w3.heap.size w3 w5 := next_trans hb34 hb5; unfold nodeV; simp only)
        | (go_simp; go_at_call 59; refine (plist_any _ _ _ _).mono ?_; rintro e w6 ⟨rfl, hb6⟩; have hb56 : Below w5.heap.size w5 w6 := next_trans (alloc_below _ _) hb6; have hb36 : Below w3.heap.size w3 w6 := next_trans hb35 hb56; have hz36 : w3.heap.size ≤ w6.heap.size := hb36.size)
        | ((refine step_append_lies _ (by rfl) _ _ _ (by rfl) (TT + 1) 43 i0 zeroNd 5 64 Tryz.underlying41 hi hz0 hz1' hz2' rfl (by decide) (.slice vao vn vcap) cs.length (ncsC cs) (by rfl) ((own_next HOw.out hb36).alloc _) ⟨w6.heap.size, 0, none⟩ 1 1 [.int .i64 0, .int .i64 0, .int .i64 0, .string ⟨#[]⟩, .slice (some ⟨w5.heap.size, 0, none⟩) 2 2] (by rfl) (by rfl) (World.news_of_block (cs := #[.int .i64 0, .int .i64 0, .int .i64 0, .string ⟨#[]⟩, .slice (some ⟨w5.heap.size, 0, none⟩) 2 2]) (t := 43) (fr := (0, 0)) (heap_alloc_new w6 _)) (by simp [Value.oneCell']) (by decide) (by unfold maxLen; omega) (by omega) (by simp; omega) (w6.heap.size + 1) (by simp) ?_; intro gk gcap w7 hown7 hgrow hat7 hlt7)))
      all_goals
        have hsz3 : w3.heap.size = BT + 1 := by rw [← HW3s.out, ← HBTs.out]; simp
        have hsz4 : w3.heap.size ≤ w4.heap.size := hb34.size
        have hsz5 : w3.heap.size ≤ w5.heap.size := hb35.size
        have HC : NcIs w6 (offB (TT + 1) (.slice vao vn vcap)) ⟨0, 0, 0, [], some ⟨w5.heap.size, 0, none⟩, 2, 2⟩ (tsNd tl ⟨tp, tnn, tv, tk, ti, ts⟩) := by
          rw [HNd.out]
          refine pair_nd (c := ⟨ck, ca, ci, css, cao, cn, ccap⟩) ?_ ⟨by omega, fun e => by have := (HOb.out _ e).2; omega⟩ ?_
          · show Bx w6 w5.heap.size #[.int .i64 2, .int .i64 0, .int .i64 0, .string (baL nm.data.toList), .slice none 0 0, .int .i64 ck, .int .i64 (ca : Int), .int .i64 ci, .string (baL css), .slice cao cn ccap]
            rw [ba_self]
            exact (Bx.made w5 _ _).next hb6
          · exact (hcc.keep fun j hj _ => ⟨rfl, by have hj' : w4.heap.size ≤ j := hj; omega, fun e => by have := (HOb.out _ e).2; have hj' : w4.heap.size ≤ j := hj; omega⟩).next hb56
        have hgs := hgrow.size
        have hgb : ∀ j, j < TT + 1 → w7.heap[j]? = w6.heap[j]? := fun j hj => by
          rw [hgrow.block j (by simp; omega) (fun e => by have := (HOb.out j e.symm).1; omega), Below.heap_alloc _ _ _ (by omega)]
        have hbl : ∀ (B : Nat) (w0 : World), B ≤ TT + 1 → Below B w0 w6 → B ≤ w6.heap.size → Below B w0 w7 := fun B w0 hB hb hs =>
          hb.trans (((Below.refl _ w6).alloc hs _).grown hgrow (by simp; omega) (fun j hj => by have := (HOb.out j hj).1; omega))
        have HN7 : Hid (PnW w w7 (TT + 1) TT tn (some ⟨sb, so, none⟩) N tc (.slice (some ⟨gk, 0, none⟩) (cs.length + 1) gcap) (cs ++ [(⟨0, 0, 0, [], some ⟨w5.heap.size, 0, none⟩, 2, 2⟩ : Nc)]) (kidsP tl tn (l.take (k + 1)))) := by
          have hl1 := HT3.out.l1
          refine ⟨hbl _ _ (by omega) (next_trans HT3.out.bel hb36) (by omega), (HT3.out.r.next hb36).keep (hgb _ (by omega)), (HT3.out.t.next hb36).keep (hgb _ (by omega)), ?_, ?_, HT3.out.l1, HT3.out.l2⟩
          · rw [← ncs_snoc, List.length_append]; exact hown7
          · rw [HKs.out]
            exact ncs_grow ((NcsIs.snoc HC (HT3.out.kids.next hb36)).next (alloc_below _ _)) hgrow hat7 (by simp)
        have HB7 : Hid (Below w1.heap.size w1 w7) := by
          have h1 := HBr3.out.size
          exact hbl _ _ (by have := HTT.out; omega) (HBr3.out.trans (hb36.mono h1)) (by omega)
        clear hown7 hgrow hat7 hcc hgb hbl HC hb4 hb5 hb6 hb34 hb35 hb36 hb56 HTb4 HT3 HTb HOw HOb HKs HNd HBr3 HW3s HBTs s0 s1 s2 s3 s4 s5 y1 n0 HTe
        go_wp2
        go_roundw
        case rel => exact ⟨k + 1, _, by omega, by go_num, HB7, HN7⟩
        case measure => simp [intOf]; omega
    · have hki : ¬ (k : Int) < (C : Int) := by omega
      obtain ⟨lao, lcap, hv, hvc, hnd⟩ := own_nds (S := geB (TT + 1)) HT.out.own (HT.out.kids.keep fun j hj _ => ⟨rfl, hj.1⟩) (fun j hj _ => hj)
      rw [List.take_of_length_le (by rw [HC.out]; omega)] at hnd hv hvc
      obtain ⟨Z, hZ⟩ : ∃ Z, (kidsP tl tn l).length = Z := ⟨_, rfl⟩
      rw [hZ] at hv hvc
      injection hv with hv1 hv2 hv3
      subst hv1 hv2 hv3
      have HND : Hid (IsNds wr (geB (TT + 1)) vao (kidsP tl tn l)) := hnd
      have hl1 := HT.out.l1
      clear hnd
      go_wp2_with fail
      refine (plist_any _ _ _ _).mono ?_
      rintro e w5 ⟨rfl, hb5⟩
      have HT5 := HT.out.next hb5
      have r0 : w5.cell? ⟨w.heap.size + 1, 0, none⟩ = some (.int .i64 0) := HT5.r.cell 0
      have r1 : w5.cell? ⟨w.heap.size + 1, 1, none⟩ = some (.int .i64 0) := HT5.r.cell 1
      have r2 : w5.cell? ⟨w.heap.size + 1, 2, none⟩ = some (.int .i64 0) := HT5.r.cell 2
      have r3 : w5.cell? ⟨w.heap.size + 1, 3, none⟩ = some (.string ⟨#[]⟩) := HT5.r.cell 3
      have r4 : w5.cell? ⟨w.heap.size + 1, 4, none⟩ = some (.slice none 0 0) := HT5.r.cell 4
      have rf := HT5.r.froz
      have HNc : Hid (NcIs w5 (geB (TT + 1)) ⟨0, 0, 0, [], vao, vn, vcap⟩ x) := by
        rw [Hid, ← HX.out]
        exact ⟨rfl, rfl, rfl, rfl, hZ.symm, hvc, HND.out.next hb5⟩
      have HB5 : Hid (Below w.heap.size w w5) := HT5.bel
      clear hb5 HT5 HT HND hZ
      go_wp2
      exact bodyPost_ret (v := .agg #[.int .i64 (0), .int .i64 (0), .int .i64 (0), .string (⟨#[]⟩), .slice vao vn vcap]) (by simp [results, Tryz.results17, go_sem, r0, r1, r2, r3, r4]) rfl (mk_done HNc.out (by omega) (by omega) _ _ _ _ _ _ rfl HB5.out)
end Go.Proofs.YtnhbjhdkpbhioaaGreatDoor
