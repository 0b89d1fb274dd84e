import Derived.Test.YtnhbjhdkpbhioaaGreatDoorPtMatch
import Derived.Deep.RegionHeld3
namespace Go.Proofs.YtnhbjhdkpbhioaaGreatDoor
open Go.RowKit
theorem stepM_out {F : List Val} {E : List Sl} {t : Ts} (h : F.length ≤ t.p) : stepM F E t = none := by
  unfold stepM
  rw [List.getElem?_eq_none h]
theorem stepM_val {F : List Val} {E : List Sl} {t : Ts} {v : Val} (h : t.v = noS) (hv : F[t.p]? = some v) : stepM F E t = if holdT t v.k v.i v.s t.k t.i t.s = true then some E else none := by
  unfold stepM
  rw [hv]
  simp only
  rw [if_pos h]
theorem stepM_var {F : List Val} {E : List Sl} {t : Ts} (h : t.v ≠ noS) : stepM F E t = stepV F E t := by unfold stepV; rw [if_neg h]
structure MrW (w wr : World) (x y : Value) (v : Value) (n : Nat) (G : List Sl) : Prop where
  bel : Below w.heap.size w wr
  p : wr.cell? ⟨w.heap.size, 1, none⟩ = some x
  f : wr.cell? ⟨w.heap.size + 1, 2, none⟩ = some y
  own : wr.ownsRow (w.heap.size + 2) 158 4 v n (slsC G)
  len : G.length = n
theorem MrW.next {w wr w' : World} {x y v : Value} {n : Nat} {G : List Sl} (h : MrW w wr x y v n G) (hb : Below wr.heap.size wr w') : MrW w w' x y v n G := ⟨next_trans h.bel hb, keep_cell hb h.p, keep_cell hb h.f, own_next h.own hb, h.len⟩
set_option maxHeartbeats 16000000 in
set_option maxRecDepth 8000 in
theorem rmatch_any (P : Ptn) (po : Option Addr) (pc : Nat) (f : Fc) (fo : Option Addr) (fc : Nat) (E : List Sl) (eo : Option Addr) (ec : Nat) (w : World) (hP : P.l.length ≤ 1000) (hs : IsTss w po P.l) (hF : f.l.length ≤ 100000) (hv : IsVals w fo f.l) (hE : E.length ≤ 1000) (hE2 : IsSls w eo E) (hE3 : eo = none → E.length = 0 ∧ ec = 0) :
    Calls Tryz.prog 30 #[ptV P po pc, fcV f fo fc, .slice eo E.length ec] w fun e w' => MtE w' (matP P f E) e ∧ Below w.heap.size w w' := by
  obtain ⟨Q, HQ⟩ : ∃ Q, Hid (matP P f E = Q) := ⟨_, rfl⟩
  rw [HQ.out]
  obtain ⟨pt, pl⟩ := P
  obtain ⟨fid, ft, fl⟩ := f
  unfold ptV fcV
  simp only at hP hs hF hv ⊢
  obtain ⟨C, HC⟩ : ∃ C, Hid (pl.length = C) := ⟨_, rfl⟩
  obtain ⟨N, HN⟩ : ∃ N, Hid (fl.length = N) := ⟨_, rfl⟩
  obtain ⟨EN, HEN⟩ : ∃ EN, Hid (E.length = EN) := ⟨_, rfl⟩
  rw [HC.out, HN.out]
  rw [HEN.out] at hE hE3 ⊢
  rw [HC.out] at hP
  rw [HN.out] at hF
  have HTs : Hid (IsTss w po pl) := hs
  have HVs : Hid (IsVals w fo fl) := hv
  clear hs hv
  obtain ⟨W, HWe⟩ : ∃ W, Hid ((w.alloc (.cells #[.string pt, .slice po C pc] 49)).alloc (.cells #[.int .i64 fid, .string ft, .slice fo N fc] 81) = W) := ⟨_, rfl⟩
  have HB : Hid (Below w.heap.size w W) := by rw [← HWe.out]; exact next_trans (alloc_below _ _) (alloc_below _ _)
  have HX : Hid (Bx W w.heap.size #[.string pt, .slice po C pc]) := by rw [← HWe.out]; exact (Bx.made _ _ _).alloc _
  have HY : Hid (Bx W (w.heap.size + 1) #[.int .i64 fid, .string ft, .slice fo N fc]) := Bx.made' HWe.out (by simp)
  have hlW : w.heap.size + 2 ≤ W.heap.size := by have := HY.out.lt; omega
  by_cases ht : ft = pt
  case neg =>
    have hd : (ft.toList == pt.toList) = false := by rw [beq_ba]; exact decide_eq_false ht
    obtain rfl : Q = none := by rw [← HQ.out]; unfold matP; exact if_neg ht
    clear ht HQ HX HY hE2 hE3
    go_enter Tryz.func30, Tryz.ntmps30
    go_wp2
    rw [HWe.out]
    go_ret2
    exact ⟨rfl, HB.out⟩
  have hd : (ft.toList == pt.toList) = true := by rw [beq_ba]; exact decide_eq_true ht
  have HM : Hid (matchL fl pl E = Q) := by rw [Hid, ← HQ.out]; unfold matP; exact (if_pos ht).symm
  have hv1 : IsSls (W.alloc (.cells #[] 158)) eo E := hE2.next (next_trans HB.out (alloc_below _ _))
  obtain ⟨v', w2, hr, hown, hg⟩ := append_rbd (cap := ec) (base := w.heap.size + 2) (World.ownsRow_made W #[] 0 hlW (Nat.zero_le _) (by simp)) HEN.out hv1 hE3 (by omega) hE (by simp; omega)
  rw [Nat.zero_add, List.nil_append] at hown
  obtain ⟨a', c', rfl, _, _⟩ := own_sls HEN.out hown
  have hgs := hg.size
  have hbk : ∀ j, j < W.heap.size → w2.heap[j]? = W.heap[j]? := fun j hj => by
    rw [hg.block j (by simp; omega) (fun e => by simp [Value.ownBlock] at e; omega), Below.heap_alloc _ _ _ hj]
  have HM0 : Hid (MrW w w2 (.slice po C pc) (.slice fo N fc) (.slice a' EN c') EN E) := by
    refine ⟨?_, ?_, ?_, hown, HEN.out⟩
    · exact HB.out.trans (((Below.refl _ W).alloc HB.out.size _).grown hg (by simp; omega) (by intro k hk; simp [Value.ownBlock] at hk; omega))
    · rw [World.cell?_of_block (a := ⟨w.heap.size, 1, none⟩) (hbk _ (by show w.heap.size < _; omega))]; exact HX.out.cell 1
    · rw [World.cell?_of_block (a := ⟨w.heap.size + 1, 2, none⟩) (hbk _ (by show w.heap.size + 1 < _; omega))]; exact HY.out.cell 2
  rw [← HWe.out] at hr
  simp only [World.size_alloc] at hr
  clear hE2 hE3 hv1 hown hg hgs hbk ht HQ HX HY HB hlW HWe
  go_enter Tryz.func30, Tryz.ntmps30
  go_wp2_with (at_builtin; refine wpList_append_runB _ rfl _ _ 78 rfl _ _ _ _ rfl rfl hr ?_)
  clear hr
  go_loopw [8, 9] (fun l q wr => ∃ (k : Nat) (G : List Sl) (ro : Option Addr) (rn rc : Nat), k ≤ C ∧ q = .int .i64 k ∧ l = .slice ro rn rc ∧ rn ≤ EN + k ∧ Hid (MrW w wr (.slice po C pc) (.slice fo N fc) (.slice ro rn rc) rn G) ∧ Hid (matchL fl (pl.take k) E = some G)) (fun _ q _ => C - (intOf q).toNat)
  case atStart => exact ⟨0, E, a', EN, c', Nat.zero_le _, rfl, rfl, Nat.le_refl _, HM0, rfl⟩
  case round =>
    obtain ⟨k, G, ro, rn, rc, hk, rfl, rfl, hrn, HW, HG⟩ := hrel
    clear HM0
    have x1 : wr.cell? ⟨w.heap.size, 1, none⟩ = some (.slice po C pc) := HW.out.p
    have y2 : wr.cell? ⟨w.heap.size + 1, 2, none⟩ = some (.slice fo N fc) := HW.out.f
    have hlx : w.heap.size < wr.heap.size := World.block_lt_of_cell? wr _ x1
    have hly : w.heap.size + 1 < wr.heap.size := World.block_lt_of_cell? wr _ y2
    by_cases hlt : k < C
    · have hki : (k : Int) < (C : Int) := by omega
      have hk0 : (0 : Int) ≤ (k : Int) := by omega
      obtain ⟨t, ht⟩ : ∃ t, pl[k]? = some t := ⟨_, List.getElem?_eq_getElem (by rw [HC.out]; exact hlt)⟩
      obtain ⟨b, o, rfl, c0, c1, c2, c3, c4, c5⟩ := (HTs.out.next HW.out.bel) k t ht
      have HT : Hid (pl[k]? = some t) := ht
      obtain ⟨tp, tn, tv, tk, ti, ts⟩ := t
      simp only at c0 c1 c2 c3 c4 c5
      have hlb : b < wr.heap.size := World.block_lt_of_cell? wr _ c0
      have hp0 : (0 : Int) ≤ (tp : Int) := by omega
      clear ht
      by_cases hpN : N ≤ tp
      · have hpi : (N : Int) ≤ (tp : Int) := by omega
        obtain rfl : Q = none := by
          rw [← HM.out]
          exact matchL_end HT.out HG.out (stepM_out (by rw [HN.out]; exact hpN))
        have HBe : Hid (Below w.heap.size w (wr.alloc (.cells #[.int .i64 (tp : Int), .bool tn, .string tv, .int .i64 tk, .int .i64 ti, .string ts] 125))) := next_trans HW.out.bel (alloc_below _ _)
        clear HT HG HM HW
        go_wp2
        go_ret2
        exact ⟨rfl, HBe.out⟩
      have hpi : (tp : Int) < (N : Int) := by omega
      obtain ⟨v, hv⟩ : ∃ v, fl[tp]? = some v := ⟨_, List.getElem?_eq_getElem (by rw [HN.out]; omega)⟩
      have HV : Hid (fl[tp]? = some v) := hv
      obtain ⟨vb, vo, rfl, v0, v1, v2⟩ := (HVs.out.next HW.out.bel) tp v hv
      obtain ⟨vk, vi, vs⟩ := v
      simp only at v0 v1 v2
      have hlv : vb < wr.heap.size := World.block_lt_of_cell? wr _ v0
      obtain ⟨W3, HW3⟩ : ∃ W3, Hid (((wr.alloc (.cells #[.int .i64 (tp : Int), .bool tn, .string tv, .int .i64 tk, .int .i64 ti, .string ts] 125)).alloc (.cells #[.int .i64 vk, .int .i64 vi, .string vs] 71)).alloc (.cells #[.int .i64 tk, .int .i64 ti, .string ts] 71) = W3) := ⟨_, rfl⟩
      obtain ⟨BT, HBT⟩ : ∃ BT, Hid (wr.heap.size = BT) := ⟨_, rfl⟩
      have hbw : Below wr.heap.size wr W3 := by rw [← HW3.out]; exact next_trans (next_trans (alloc_below _ _) (alloc_below _ _)) (alloc_below _ _)
      have HWn : Hid (MrW w W3 (.slice (some ⟨b, o, none⟩) C pc) (.slice (some ⟨vb, vo, none⟩) N fc) (.slice ro rn rc) rn G) := HW.out.next hbw
      have HT3 : Hid (Bx W3 BT #[.int .i64 (tp : Int), .bool tn, .string tv, .int .i64 tk, .int .i64 ti, .string ts]) := by rw [← HW3.out, ← HBT.out]; exact ((Bx.made _ _ _).alloc _).alloc _
      have HV3 : Hid (Bx W3 (BT + 1) #[.int .i64 vk, .int .i64 vi, .string vs]) := by rw [← HW3.out, ← HBT.out]; exact (Bx.made' rfl (by simp)).alloc _
      have HU3 : Hid (Bx W3 (BT + 1 + 1) #[.int .i64 tk, .int .i64 ti, .string ts]) := Bx.made' HW3.out (by rw [← HBT.out]; simp)
      clear hv hbw
      by_cases hx : tv = noS
      · have he := isE_yes hx
        have HSt0 : Hid (stepM fl G ⟨tp, tn, tv, tk, ti, ts⟩ = if holdT ⟨tp, tn, tv, tk, ti, ts⟩ vk vi vs tk ti ts = true then some G else none) := stepM_val (t := ⟨tp, tn, tv, tk, ti, ts⟩) hx HV.out
        have s1 : W3.cell? ⟨BT, 1, none⟩ = some (.bool tn) := HT3.out.cell 1
        have q0 : W3.cell? ⟨BT + 1, 0, none⟩ = some (.int .i64 vk) := HV3.out.cell 0
        have q1 : W3.cell? ⟨BT + 1, 1, none⟩ = some (.int .i64 vi) := HV3.out.cell 1
        have q2 : W3.cell? ⟨BT + 1, 2, none⟩ = some (.string vs) := HV3.out.cell 2
        have u0 : W3.cell? ⟨BT + 1 + 1, 0, none⟩ = some (.int .i64 tk) := HU3.out.cell 0
        have u1 : W3.cell? ⟨BT + 1 + 1, 1, none⟩ = some (.int .i64 ti) := HU3.out.cell 1
        have u2 : W3.cell? ⟨BT + 1 + 1, 2, none⟩ = some (.string ts) := HU3.out.cell 2
        clear hx HV
        go_wp2
        rw [HW3.out, HBT.out]
        clear HW3 HBT HW
        obtain ⟨q, Hq⟩ : ∃ q, Hid (sameB vk vi vs tk ti ts = q) := ⟨_, rfl⟩
        have HSm : Hid (∀ w : World, Calls Tryz.prog 56 #[.agg #[.int .i64 (vk), .int .i64 (vi), .string (vs)], .agg #[.int .i64 (tk), .int .i64 (ti), .string (ts)]] w fun e w' => e = .returned (.bool q) ∧ Below w.heap.size w w') := by
          intro w; rw [← Hq.out]; exact rsame_any vk vi tk ti vs ts w
        have hqt : (if holdT ⟨tp, tn, tv, tk, ti, ts⟩ vk vi vs tk ti ts = true then some G else none) = if (q == tn) = true then none else some G := by
          unfold holdT; rw [Hq.out]; cases q <;> cases tn <;> rfl
        have HSt : Hid (stepM fl G ⟨tp, tn, tv, tk, ti, ts⟩ = if (q == tn) = true then none else some G) := by rw [Hid, HSt0.out, hqt]
        clear hqt HSt0 Hq
        go_region_held3 (fun w' => w'.cell? ⟨BT, 1, none⟩ = some (.bool tn) ∧ w'.cell? ⟨BT + 1, 0, none⟩ = some (.int .i64 vk) ∧ w'.cell? ⟨BT + 1, 1, none⟩ = some (.int .i64 vi) ∧ w'.cell? ⟨BT + 1, 2, none⟩ = some (.string vs) ∧ w'.cell? ⟨BT + 1 + 1, 0, none⟩ = some (.int .i64 tk) ∧ w'.cell? ⟨BT + 1 + 1, 1, none⟩ = some (.int .i64 ti) ∧ w'.cell? ⟨BT + 1 + 1, 2, none⟩ = some (.string ts))
          (((try dsimp only); go_split_ands; refine ⟨?_, ?_, ?_, ?_, ?_, ?_, ?_⟩ <;> first | assumption | exact keep_cell (by assumption) (by assumption)))
          (first
            | (go_at_call 56; refine (HSm.out _).mono ?_; rintro e w6 ⟨rfl, hb⟩; have hb6 := hb))
        all_goals
          go_split_ands
          have HW6 : Hid (MrW w w6 (.slice (some ⟨b, o, none⟩) C pc) (.slice (some ⟨vb, vo, none⟩) N fc) (.slice ro rn rc) rn G) := HWn.out.next (below_undrawn hb6)
          clear hb hb6 HSm HWn
          cases hqn : (q == tn) with
          | true =>
            obtain rfl : Q = none := by rw [← HM.out]; exact matchL_end HT.out HG.out (by rw [HSt.out, hqn]; rfl)
            have HBe : Hid (Below w.heap.size w w6) := HW6.out.bel
            clear HT HG HSt HM HW6
            go_wp2
            go_ret2
            exact ⟨rfl, HBe.out⟩
          | false =>
            have HG2 : Hid (matchL fl (pl.take (k + 1)) E = some G) := matchL_go HT.out HG.out (by rw [HSt.out, hqn]; rfl)
            clear HT HG HSt
            go_wp2
            go_roundw
            case rel => exact ⟨k + 1, G, ro, rn, rc, by omega, by go_num, rfl, by omega, HW6, HG2⟩
            case measure => simp [intOf]; omega
      have he := isE_no hx
      obtain ⟨g, Hg⟩ : ∃ g, Hid (gtV G tv = g) := ⟨_, rfl⟩
      obtain ⟨⟨gn, gk, gi, gs⟩, gb⟩ := g
      have HGt : Hid (Calls Tryz.prog 72 #[.slice ro rn rc, .string tv] W3 fun e w' => e = .returned (.tuple #[.agg #[.int .i64 (gk), .int .i64 (gi), .string (gs)], .bool gb]) ∧ Below W3.heap.size W3 w') := by
        obtain ⟨ro', rc', he1, he2, _⟩ := own_sls HWn.out.len HWn.out.own
        cases he1
        have := rgt_any ro rn rc G tv W3 HWn.out.len (by omega) he2
        rw [Hg.out] at this
        exact this
      go_wp2_with fail
      rw [HW3.out, HBT.out]
      refine HGt.out.mono ?_
      rintro e w4 ⟨rfl, hb4⟩
      have HW4 : Hid (MrW w w4 (.slice (some ⟨b, o, none⟩) C pc) (.slice (some ⟨vb, vo, none⟩) N fc) (.slice ro rn rc) rn G) := HWn.out.next hb4
      have HT4 : Hid (Bx w4 BT #[.int .i64 (tp : Int), .bool tn, .string tv, .int .i64 tk, .int .i64 ti, .string ts]) := HT3.out.next hb4
      have HV4 : Hid (Bx w4 (BT + 1) #[.int .i64 vk, .int .i64 vi, .string vs]) := HV3.out.next hb4
      have HU4 : Hid (Bx w4 (BT + 1 + 1) #[.int .i64 tk, .int .i64 ti, .string ts]) := HU3.out.next hb4
      have s1 : w4.cell? ⟨BT, 1, none⟩ = some (.bool tn) := HT4.out.cell 1
      have s2 : w4.cell? ⟨BT, 2, none⟩ = some (.string tv) := HT4.out.cell 2
      have q0 : w4.cell? ⟨BT + 1, 0, none⟩ = some (.int .i64 vk) := HV4.out.cell 0
      have q1 : w4.cell? ⟨BT + 1, 1, none⟩ = some (.int .i64 vi) := HV4.out.cell 1
      have q2 : w4.cell? ⟨BT + 1, 2, none⟩ = some (.string vs) := HV4.out.cell 2
      have u0 : w4.cell? ⟨BT + 1 + 1, 0, none⟩ = some (.int .i64 tk) := HU4.out.cell 0
      have u1 : w4.cell? ⟨BT + 1 + 1, 1, none⟩ = some (.int .i64 ti) := HU4.out.cell 1
      have u2 : w4.cell? ⟨BT + 1 + 1, 2, none⟩ = some (.string ts) := HU4.out.cell 2
      have uf := HU4.out.froz
      have hl4 : BT + 1 + 1 < w4.heap.size := HU4.out.lt
      have hl4b : BT + 1 < w4.heap.size := by omega
      have hl4c : BT < w4.heap.size := by omega
      have HBw : Hid (Below wr.heap.size wr w4) := by rw [← HW3.out] at hb4; exact next_trans (next_trans (next_trans (alloc_below _ _) (alloc_below _ _)) (alloc_below _ _)) hb4
      have hBT : wr.heap.size = BT := HBT.out
      clear hb4 c0 c1 c2 c3 c4 c5 v0 v1 v2 y2 x1 hlx hly hlb hlv HGt HWn HT3 HV3 HU3 HW3
      cases gb with
      | true =>
        have HGs : Hid (gtB G tv = some ⟨gn, gk, gi, gs⟩) := by
          have := Hg.out
          unfold gtV at this
          split at this
          · rename_i x hx2; cases this; exact hx2
          · cases this
        have HSt0 : Hid (stepM fl G ⟨tp, tn, tv, tk, ti, ts⟩ = if holdT ⟨tp, tn, tv, tk, ti, ts⟩ vk vi vs gk gi gs = true then some G else none) := by
          rw [Hid, stepM_var (t := ⟨tp, tn, tv, tk, ti, ts⟩) hx]; exact stepV_old (t := ⟨tp, tn, tv, tk, ti, ts⟩) hx HV.out HGs.out
        obtain ⟨W5, HW5⟩ : ∃ W5, Hid ((((w4.setCell ⟨BT + 1 + 1, 0, none⟩ (.int .i64 gk)).setCell ⟨BT + 1 + 1, 1, none⟩ (.int .i64 gi)).setCell ⟨BT + 1 + 1, 2, none⟩ (.string gs)).alloc (.cells #[.int .i64 gk, .int .i64 gi, .string gs] 71) = W5) := ⟨_, rfl⟩
        have HW5n : Hid (MrW w W5 (.slice (some ⟨b, o, none⟩) C pc) (.slice (some ⟨vb, vo, none⟩) N fc) (.slice ro rn rc) rn G) := by
          refine HW.out.next ?_
          rw [← HW5.out]
          exact (bel3 HBw.out (by omega) _ _ _).alloc (bel3 HBw.out (by omega) _ _ _).size _
        have HT5 : Hid (Bx W5 BT #[.int .i64 (tp : Int), .bool tn, .string tv, .int .i64 tk, .int .i64 ti, .string ts]) := by rw [← HW5.out]; exact (((HT4.out.off (by omega) _ _).off (by omega) _ _).off (by omega) _ _).alloc _
        have HV5 : Hid (Bx W5 (BT + 1) #[.int .i64 vk, .int .i64 vi, .string vs]) := by rw [← HW5.out]; exact (((HV4.out.off (by omega) _ _).off (by omega) _ _).off (by omega) _ _).alloc _
        have HU5 : Hid (Bx W5 (BT + 1 + 1) #[.int .i64 gk, .int .i64 gi, .string gs]) := by rw [← HW5.out]; exact (((HU4.out.set 0 _).set 1 _).set 2 _).alloc _
        clear hx HV Hg HGs
        go_wp2
        rw [HW5.out]
        have s1 : W5.cell? ⟨BT, 1, none⟩ = some (.bool tn) := HT5.out.cell 1
        have q0 : W5.cell? ⟨BT + 1, 0, none⟩ = some (.int .i64 vk) := HV5.out.cell 0
        have q1 : W5.cell? ⟨BT + 1, 1, none⟩ = some (.int .i64 vi) := HV5.out.cell 1
        have q2 : W5.cell? ⟨BT + 1, 2, none⟩ = some (.string vs) := HV5.out.cell 2
        have u0 : W5.cell? ⟨BT + 1 + 1, 0, none⟩ = some (.int .i64 gk) := HU5.out.cell 0
        have u1 : W5.cell? ⟨BT + 1 + 1, 1, none⟩ = some (.int .i64 gi) := HU5.out.cell 1
        have u2 : W5.cell? ⟨BT + 1 + 1, 2, none⟩ = some (.string gs) := HU5.out.cell 2
        clear HW5 HBT hBT HW HBw HT4 HV4 HU4 HT5 HV5 HU5 HW4 uf hl4 hl4b hl4c
        obtain ⟨q, Hq⟩ : ∃ q, Hid (sameB vk vi vs gk gi gs = q) := ⟨_, rfl⟩
        have HSm : Hid (∀ w : World, Calls Tryz.prog 56 #[.agg #[.int .i64 (vk), .int .i64 (vi), .string (vs)], .agg #[.int .i64 (gk), .int .i64 (gi), .string (gs)]] w fun e w' => e = .returned (.bool q) ∧ Below w.heap.size w w') := by
          intro w; rw [← Hq.out]; exact rsame_any vk vi gk gi vs gs w
        have hqt : (if holdT ⟨tp, tn, tv, tk, ti, ts⟩ vk vi vs gk gi gs = true then some G else none) = if (q == tn) = true then none else some G := by
          unfold holdT; rw [Hq.out]; cases q <;> cases tn <;> rfl
        have HSt : Hid (stepM fl G ⟨tp, tn, tv, tk, ti, ts⟩ = if (q == tn) = true then none else some G) := by rw [Hid, HSt0.out, hqt]
        clear hqt HSt0 Hq
        go_region_held3 (fun w' => w'.cell? ⟨BT, 1, none⟩ = some (.bool tn) ∧ w'.cell? ⟨BT + 1, 0, none⟩ = some (.int .i64 vk) ∧ w'.cell? ⟨BT + 1, 1, none⟩ = some (.int .i64 vi) ∧ w'.cell? ⟨BT + 1, 2, none⟩ = some (.string vs) ∧ w'.cell? ⟨BT + 1 + 1, 0, none⟩ = some (.int .i64 gk) ∧ w'.cell? ⟨BT + 1 + 1, 1, none⟩ = some (.int .i64 gi) ∧ w'.cell? ⟨BT + 1 + 1, 2, none⟩ = some (.string gs))
          (((try dsimp only); go_split_ands; refine ⟨?_, ?_, ?_, ?_, ?_, ?_, ?_⟩ <;> first | assumption | exact keep_cell (by assumption) (by assumption)))
          (first
            | (go_at_call 56; refine (HSm.out _).mono ?_; rintro e w6 ⟨rfl, hb⟩; have hb6 := hb))
        all_goals
          go_split_ands
          have HW6 : Hid (MrW w w6 (.slice (some ⟨b, o, none⟩) C pc) (.slice (some ⟨vb, vo, none⟩) N fc) (.slice ro rn rc) rn G) := HW5n.out.next (below_undrawn hb6)
          clear hb hb6 HSm HW5n
          cases hqn : (q == tn) with
          | true =>
            obtain rfl : Q = none := by rw [← HM.out]; exact matchL_end HT.out HG.out (by rw [HSt.out, hqn]; rfl)
            have HBe : Hid (Below w.heap.size w w6) := HW6.out.bel
            clear HT HG HSt HM HW6
            go_wp2
            go_ret2
            exact ⟨rfl, HBe.out⟩
          | false =>
            have HG2 : Hid (matchL fl (pl.take (k + 1)) E = some G) := matchL_go HT.out HG.out (by rw [HSt.out, hqn]; rfl)
            clear HT HG HSt
            go_wp2
            go_roundw
            case rel => exact ⟨k + 1, G, ro, rn, rc, by omega, by go_num, rfl, by omega, HW6, HG2⟩
            case measure => simp [intOf]; omega
      | false =>
        have HGs : Hid (gtB G tv = none) := by
          have := Hg.out
          unfold gtV at this
          split at this
          · cases this
          · rename_i hx2; exact hx2
        have HSt : Hid (stepM fl G ⟨tp, tn, tv, tk, ti, ts⟩ = if tn = true then none else some (G ++ [⟨tv, vk, vi, vs⟩])) := by
          rw [Hid, stepM_var (t := ⟨tp, tn, tv, tk, ti, ts⟩) hx]; exact stepV_new (t := ⟨tp, tn, tv, tk, ti, ts⟩) hx HV.out HGs.out
        clear hx HV Hg HGs
        cases tn with
        | true =>
          obtain rfl : Q = none := by rw [← HM.out]; exact matchL_end HT.out HG.out HSt.out
          have HB5 : Hid (Below w.heap.size w (w4.alloc (.cells #[.int .i64 gk, .int .i64 gi, .string gs] 71))) := next_trans HW4.out.bel (alloc_below _ _)
          clear HT HG HSt HM HW4 HT4 HV4 HU4
          go_wp2
          go_ret2
          exact ⟨rfl, HB5.out⟩
        | false =>
          have HG2 : Hid (matchL fl (pl.take (k + 1)) E = some (G ++ [⟨tv, vk, vi, vs⟩])) := matchL_go HT.out HG.out HSt.out
          clear HT HG HSt
          obtain ⟨i0, hi, hz0, hz1, hz2⟩ := infoRBd'
          have hrn2 : rn ≤ 2000 := by omega
          have HO4 : Hid (w4.ownsRow (w.heap.size + 2) 158 4 (.slice ro rn rc) rn (slsC G)) := HW4.out.own
          have HOb : Hid (∀ j, (Value.slice ro rn rc).ownBlock = some j → w.heap.size + 2 ≤ j ∧ j < w4.heap.size) := fun j hj => HO4.out.lt j hj
          have hly4 : w.heap.size + 1 < w4.heap.size := World.block_lt_of_cell? w4 _ HW4.out.f
          go_wp2_with (at_builtin; refine wpList_append_own _ rfl _ _ 78 rfl (w.heap.size + 2) 158 i0 zeroSl 4 48 Tryz.underlying78 hi hz0 hz1 hz2 rfl (by decide) _ _ _ rfl ((HO4.out.alloc _).alloc _) ⟨w4.heap.size + 1, 0, none⟩ 1 1 [.string tv, .int .i64 vk, .int .i64 vi, .string vs] rfl rfl ?c1 ?c2 ?c3 ?c4 ?c5 ?_)
          case c1 =>
            intro j u hj
            match j, hj with
            | 0, hj => simp at hj; subst hj; simp [Addr.add]
            | 1, hj => simp at hj; subst hj; simp [Addr.add]
            | 2, hj => simp at hj; subst hj; simp [Addr.add]
            | 3, hj => simp at hj; subst hj; simp [Addr.add]
          case c2 => intro u hu; simp at hu; rcases hu with rfl | rfl | rfl | rfl <;> rfl
          case c3 => unfold maxLen; omega
          case c4 => omega
          case c5 => simp; omega
          intro s2' w7 ho hg _
          have HW7 : Hid (MrW w w7 (.slice (some ⟨b, o, none⟩) C pc) (.slice (some ⟨vb, vo, none⟩) N fc) s2' (rn + 1) (G ++ [⟨tv, vk, vi, vs⟩])) := by
            have hh : ∀ j, j < w.heap.size + 2 → w7.heap[j]? = w4.heap[j]? := fun j hj => by
              rw [hg.block _ (by simp; omega) (fun e => by have := (HOb.out _ e.symm).1; omega), Below.heap_alloc _ _ _ (by simp; omega), Below.heap_alloc _ _ _ (by omega)]
            refine ⟨?_, ?_, ?_, ?_, ?_⟩
            · have hs := HW4.out.bel.size
              refine HW4.out.bel.trans ((((Below.refl _ w4).alloc hs _).alloc (by simp; omega) _).grown hg (by simp; omega) (fun k hk => ?_))
              have := (HOb.out k hk).1
              omega
            · rw [World.cell?_of_block (a := ⟨w.heap.size, 1, none⟩) (hh _ (by show w.heap.size < _; omega))]; exact HW4.out.p
            · rw [World.cell?_of_block (a := ⟨w.heap.size + 1, 2, none⟩) (hh _ (by show w.heap.size + 1 < _; omega))]; exact HW4.out.f
            · rw [← slsC_snoc]; exact ho
            · rw [List.length_append, HW4.out.len]; rfl
          obtain ⟨ro2, rc2, hs2, _, _⟩ := own_sls HW7.out.len HW7.out.own
          subst hs2
          clear ho hg HW4 HT4 HV4 HU4 HO4 HOb hi hz0 hz1 hz2 s1 s2 q0 q1 q2 u0 u1 u2
          go_wp2
          go_roundw
          case rel => exact ⟨k + 1, _, ro2, rn + 1, rc2, by omega, by go_num, rfl, by omega, HW7, HG2⟩
          case measure => simp [intOf]; omega
    · have hki : ¬ (k : Int) < (C : Int) := by omega
      obtain rfl : Q = some G := by
        rw [← HM.out, ← HG.out, List.take_of_length_le (by rw [HC.out]; omega)]
      obtain ⟨ro2, rc2, hs2, hsl, _⟩ := own_sls HW.out.len HW.out.own
      cases hs2
      have HSl : Hid (IsSls wr ro G) := hsl
      have HBe : Hid (Below w.heap.size w wr) := HW.out.bel
      have hlen := HW.out.len
      clear hsl HW HG HM
      go_wp2
      go_ret2
      exact ⟨⟨ro, rc, by rw [hlen]; rfl, HSl.out⟩, HBe.out⟩
end Go.Proofs.YtnhbjhdkpbhioaaGreatDoor
