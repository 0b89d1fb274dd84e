import Derived.Test.YtnhbjhdkpbhioaaGreatDoorPtAlone
import Derived.Test.YtnhbjhdkpbhioaaGreatDoorPtRow
namespace Go.Proofs.YtnhbjhdkpbhioaaGreatDoor
open Go.RowKit
def matP (p : Ptn) (f : Fc) (E : List Sl) : Option (List Sl) := if f.t = p.t then matchL f.l p.l E else none
theorem matP_no {p : Ptn} {f : Fc} {E : List Sl} (h : alonB p f = false) : matP p f E = none := by
  unfold matP
  split
  · rename_i ht
    rw [alon_l ht] at h
    exact match_no f.l p.l E h
  · rfl
theorem matP_yes {p : Ptn} {f : Fc} {E : List Sl} (h : alonB p f = true) : matP p f E = matchV f.l p.l E ∧ aloneL f.l p.l = true := by
  unfold matP
  by_cases ht : f.t = p.t
  · rw [if_pos ht]
    rw [alon_l ht] at h
    exact ⟨match_yes f.l p.l E h, h⟩
  · rw [alon_t ht] at h; cases h
def MtE (w' : World) : Option (List Sl) → Ending → Prop
  | some G, e => ∃ ro rc, e = .returned (.tuple #[.slice ro G.length rc, .bool true]) ∧ IsSls w' ro G
  | none, e => e = .returned (.tuple #[.slice none 0 0, .bool false])
theorem aloneL_slot {F : List Val} {l : List Ts} (h : aloneL F l = true) {k : Nat} {t : Ts} (ht : l[k]? = some t) : ∃ v, F[t.p]? = some v := by
  unfold aloneL at h
  rw [List.all_eq_true] at h
  have := h t (List.mem_of_getElem? ht)
  unfold aloneT at this
  split at this
  · cases this
  · rename_i v hv; exact ⟨v, hv⟩
theorem stepV_skip {F : List Val} {E : List Sl} {t : Ts} (h : t.v = noS) : stepV F E t = some E := by unfold stepV; rw [if_pos h]
theorem stepV_new {F : List Val} {E : List Sl} {t : Ts} {v : Val} (h : t.v ≠ noS) (hv : F[t.p]? = some v) (hg : gtB E t.v = none) : stepV F E t = if t.n = true then none else some (E ++ [⟨t.v, v.k, v.i, v.s⟩]) := by
  unfold stepV stepM
  rw [if_neg h, hv]
  simp only
  rw [if_neg h, hg]
theorem stepV_old {F : List Val} {E : List Sl} {t : Ts} {v : Val} {x : Sl} (h : t.v ≠ noS) (hv : F[t.p]? = some v) (hg : gtB E t.v = some x) : stepV F E t = if holdT t v.k v.i v.s x.k x.i x.s = true then some E else none := by
  unfold stepV stepM
  rw [if_neg h, hv]
  simp only
  rw [if_neg h, hg]
structure MtW (w wr : World) (y : Value) (v : Value) (n : Nat) (G : List Sl) : Prop where
  bel : Below w.heap.size w wr
  f : wr.cell? ⟨w.heap.size + 1, 2, none⟩ = some y
  own : wr.ownsRow (w.heap.size + 2) 91 4 v n (slsC G)
  len : G.length = n
theorem MtW.next {w wr w' : World} {y v : Value} {n : Nat} {G : List Sl} (h : MtW w wr y v n G) (hb : Below wr.heap.size wr w') : MtW w w' y v n G := ⟨next_trans h.bel hb, keep_cell hb h.f, own_next h.own hb, h.len⟩
set_option maxHeartbeats 8000000 in
set_option maxRecDepth 8000 in
theorem match_any (P : Ptn) (po : Option Addr) (pc : Nat) (f : Fc) (fo : Option Addr) (fc : Nat) (E : List Sl) (eo : Option Addr) (ec : Nat) (w : World) (hP : P.l.length ≤ 1000) (hs : IsTss w po P.l) (hF : f.l.length ≤ 100000) (hv : IsVals w fo f.l) (hE : E.length ≤ 1000) (hE2 : IsSls w eo E) (hE3 : eo = none → E.length = 0 ∧ ec = 0) :
    Calls Tryz.prog 29 #[ptV P po pc, fcV f fo fc, .slice eo E.length ec] w fun e w' => MtE w' (matP P f E) e ∧ Below w.heap.size w w' := by
  have HAl : Hid (∀ w', Below w.heap.size w w' → Calls Tryz.prog 33 #[ptV P po pc, fcV f fo fc] w' fun e w2 => e = .returned (.bool (alonB P f)) ∧ Below w'.heap.size w' w2) := fun w' h => alone_any P po pc f fo fc w' (by omega) (hs.next h) hF (hv.next h)
  obtain ⟨al, Hal⟩ : ∃ al, Hid (alonB P f = al) := ⟨_, rfl⟩
  obtain ⟨Q, HQ⟩ : ∃ Q, Hid (matP P f E = Q) := ⟨_, rfl⟩
  rw [Hal.out] at HAl
  rw [HQ.out]
  obtain ⟨pt, pl⟩ := P
  obtain ⟨fid, ft, fl⟩ := f
  unfold ptV fcV at HAl
  unfold ptV fcV
  simp only at hP hs hF hv HAl ⊢
  obtain ⟨C, HC⟩ : ∃ C, Hid (pl.length = C) := ⟨_, rfl⟩
  obtain ⟨N, HN⟩ : ∃ N, Hid (fl.length = N) := ⟨_, rfl⟩
  obtain ⟨EN, HEN⟩ : ∃ EN, Hid (E.length = EN) := ⟨_, rfl⟩
  rw [HC.out, HN.out] at HAl ⊢
  rw [HEN.out] at hE hE3 ⊢
  rw [HC.out] at hP
  rw [HN.out] at hF
  have HTs : Hid (IsTss w po pl) := hs
  have HVs : Hid (IsVals w fo fl) := hv
  have HCl : Hid (∀ w', Below w.heap.size w w' → Calls Tryz.prog 69 #[.slice eo EN ec] w' fun e w2 => ∃ a' c', e = .returned (.slice a' EN c') ∧ w2.ownsRow w'.heap.size 91 4 (.slice a' EN c') EN (slsC E) ∧ Below w'.heap.size w' w2) := fun w' h => cloneb_any eo ec EN E w' HEN.out (hE2.next h) hE3 hE
  clear hs hv hE2 hE3
  obtain ⟨W, HWe⟩ : ∃ W, Hid ((w.alloc (.cells #[.string pt, .slice po C pc] 36)).alloc (.cells #[.int .i64 fid, .string ft, .slice fo N fc] 66) = W) := ⟨_, rfl⟩
  have HB : Hid (Below w.heap.size w W) := by rw [← HWe.out]; exact next_trans (alloc_below _ _) (alloc_below _ _)
  have HX : Hid (Bx W w.heap.size #[.string pt, .slice po C pc]) := by rw [← HWe.out]; exact (Bx.made _ _ _).alloc _
  have HY : Hid (Bx W (w.heap.size + 1) #[.int .i64 fid, .string ft, .slice fo N fc]) := Bx.made' HWe.out (by simp)
  have x0 : W.cell? ⟨w.heap.size, 0, none⟩ = some (.string pt) := HX.out.cell 0
  have x1 : W.cell? ⟨w.heap.size, 1, none⟩ = some (.slice po C pc) := HX.out.cell 1
  have y0 : W.cell? ⟨w.heap.size + 1, 0, none⟩ = some (.int .i64 fid) := HY.out.cell 0
  have y1 : W.cell? ⟨w.heap.size + 1, 1, none⟩ = some (.string ft) := HY.out.cell 1
  have y2 : W.cell? ⟨w.heap.size + 1, 2, none⟩ = some (.slice fo N fc) := HY.out.cell 2
  have hlW : w.heap.size + 2 ≤ W.heap.size := by have := HY.out.lt; omega
  go_enter Tryz.func29, Tryz.ntmps29
  go_wp2_with fail
  rw [HWe.out]
  clear HWe
  refine (HAl.out W HB.out).mono ?_
  rintro e w1 ⟨rfl, hb1⟩
  have HB1 : Hid (Below w.heap.size w w1) := next_trans HB.out hb1
  have hl1 : w.heap.size + 2 ≤ w1.heap.size := by have := hb1.size; omega
  have X1 : w1.cell? ⟨w.heap.size, 1, none⟩ = some (.slice po C pc) := keep_cell hb1 x1
  have Y2 : w1.cell? ⟨w.heap.size + 1, 2, none⟩ = some (.slice fo N fc) := keep_cell hb1 y2
  clear hb1 HAl x0 x1 y0 y1 y2 HX HY HB hlW
  cases al with
  | false =>
    obtain rfl : Q = none := by rw [← HQ.out]; exact matP_no Hal.out
    clear Hal HQ X1 Y2
    go_wp2
    go_ret2
    exact ⟨rfl, HB1.out⟩
  | true =>
    have HM : Hid (matchV fl pl E = Q ∧ aloneL fl pl = true) := by
      obtain ⟨h1, h2⟩ := matP_yes (E := E) Hal.out
      exact ⟨by rw [← HQ.out]; exact h1.symm, h2⟩
    clear Hal HQ
    go_wp2_with fail
    refine (HCl.out w1 HB1.out).mono ?_
    rintro e w2 ⟨a', c', rfl, hown, hb2⟩
    have HM0 : Hid (MtW w w2 (.slice fo N fc) (.slice a' EN c') EN E) := ⟨next_trans HB1.out hb2, keep_cell hb2 Y2, own_base hown hl1, HEN.out⟩
    have X2 : w2.cell? ⟨w.heap.size, 1, none⟩ = some (.slice po C pc) := keep_cell hb2 X1
    clear hb2 hown X1 Y2 HCl HB1 hl1
    go_wp2
    clear X2
    go_loopw [8, 23] (fun l q wr => ∃ (k : Nat) (G : List Sl) (ro : Option Addr) (rn rc : Nat), k ≤ C ∧ q = .int .i64 k ∧ l = .slice ro rn rc ∧ rn ≤ EN + k ∧ Hid (MtW w wr (.slice fo N fc) (.slice ro rn rc) rn G) ∧ Hid (matchV fl (pl.take k) E = some G)) (fun _ q _ => C - (intOf q).toNat)
    case atStart => exact ⟨0, E, a', EN, c', Nat.zero_le _, rfl, rfl, Nat.le_refl _, HM0, rfl⟩
    case round =>
      obtain ⟨k, G, ro, rn, rc, hk, rfl, rfl, hrn, HW, HG⟩ := hrel
      clear HM0
      by_cases hlt : k < C
      · have hki : (k : Int) < (C : Int) := by omega
        have hk0 : (0 : Int) ≤ (k : Int) := by omega
        obtain ⟨t, ht⟩ : ∃ t, pl[k]? = some t := ⟨_, List.getElem?_eq_getElem (by rw [HC.out]; exact hlt)⟩
        obtain ⟨b, o, rfl, c0, c1, c2, c3, c4, c5⟩ := (HTs.out.next HW.out.bel) k t ht
        have HT : Hid (pl[k]? = some t) := ht
        obtain ⟨v, hv⟩ := aloneL_slot HM.out.2 ht
        obtain ⟨tp, tn, tv, tk, ti, ts⟩ := t
        simp only at c0 c1 c2 c3 c4 c5 hv
        by_cases hx : tv = noS
        · have he := isE_yes hx
          have HG2 : Hid (matchV fl (pl.take (k + 1)) E = some G) := matchV_go HT.out HG.out (stepV_skip (t := ⟨tp, tn, tv, tk, ti, ts⟩) hx)
          have HW2 : Hid (MtW w (wr.alloc (.cells #[.int .i64 (tp : Int), .bool tn, .string tv, .int .i64 tk, .int .i64 ti, .string ts] 88)) (.slice fo N fc) (.slice ro rn rc) rn G) := HW.out.next (alloc_below _ _)
          clear hx hv ht HT HG HW
          go_wp2
          go_roundw
          case rel => exact ⟨k + 1, G, ro, rn, rc, by omega, by go_num, rfl, by omega, HW2, HG2⟩
          case measure => simp [intOf]; omega
        have he := isE_no hx
        obtain ⟨vb, vo, rfl, v0, v1, v2⟩ := (HVs.out.next HW.out.bel) tp v hv
        have hpN : tp < N := by have := (List.getElem?_eq_some_iff.1 hv).1; rw [HN.out] at this; exact this
        have hpi : (tp : Int) < (N : Int) := by omega
        have hp0 : (0 : Int) ≤ (tp : Int) := by omega
        have HV : Hid (fl[tp]? = some v) := hv
        obtain ⟨vk, vi, vs⟩ := v
        simp only at v0 v1 v2
        obtain ⟨W3, HW3⟩ : ∃ W3, Hid ((wr.alloc (.cells #[.int .i64 (tp : Int), .bool tn, .string tv, .int .i64 tk, .int .i64 ti, .string ts] 88)).alloc (.cells #[.int .i64 vk, .int .i64 vi, .string vs] 71) = W3) := ⟨_, rfl⟩
        obtain ⟨BT, HBT⟩ : ∃ BT, Hid (wr.heap.size = BT) := ⟨_, rfl⟩
        have hbw : Below wr.heap.size wr W3 := by rw [← HW3.out]; exact next_trans (alloc_below _ _) (alloc_below _ _)
        have HWn : Hid (MtW w W3 (.slice (some ⟨vb, vo, none⟩) N fc) (.slice ro rn rc) rn G) := HW.out.next hbw
        have HT3 : Hid (Bx W3 BT #[.int .i64 (tp : Int), .bool tn, .string tv, .int .i64 tk, .int .i64 ti, .string ts]) := by rw [← HW3.out, ← HBT.out]; exact (Bx.made _ _ _).alloc _
        have HV3 : Hid (Bx W3 (BT + 1) #[.int .i64 vk, .int .i64 vi, .string vs]) := Bx.made' HW3.out (by rw [← HBT.out]; simp)
        obtain ⟨g, Hg⟩ : ∃ g, Hid (gtV G tv = g) := ⟨_, rfl⟩
        obtain ⟨⟨gn, gk, gi, gs⟩, gb⟩ := g
        have HGt : Hid (Calls Tryz.prog 70 #[.slice ro rn rc, .string tv] W3 fun e w' => e = .returned (.tuple #[.agg #[.int .i64 (gk), .int .i64 (gi), .string (gs)], .bool gb]) ∧ Below W3.heap.size W3 w') := by
          obtain ⟨ro', rc', he1, he2, _⟩ := own_sls HWn.out.len HWn.out.own
          cases he1
          have := get_any ro rn rc G tv W3 HWn.out.len (by omega) he2
          rw [Hg.out] at this
          exact this
        have y2 : wr.cell? ⟨w.heap.size + 1, 2, none⟩ = some (.slice (some ⟨vb, vo, none⟩) N fc) := HW.out.f
        have hbly : w.heap.size + 1 < wr.heap.size := World.block_lt_of_cell? wr _ y2
        have hblv : vb < wr.heap.size := World.block_lt_of_cell? wr _ v0
        clear hv ht hbw
        go_wp2_with fail
        rw [HW3.out, HBT.out]
        refine HGt.out.mono ?_
        rintro e w4 ⟨rfl, hb4⟩
        have HW4 : Hid (MtW w w4 (.slice (some ⟨vb, vo, none⟩) N fc) (.slice ro rn rc) rn G) := HWn.out.next hb4
        have HT4 : Hid (Bx w4 BT #[.int .i64 (tp : Int), .bool tn, .string tv, .int .i64 tk, .int .i64 ti, .string ts]) := HT3.out.next hb4
        have HV4 : Hid (Bx w4 (BT + 1) #[.int .i64 vk, .int .i64 vi, .string vs]) := HV3.out.next hb4
        have s0 : w4.cell? ⟨BT, 0, none⟩ = some (.int .i64 (tp : Int)) := HT4.out.cell 0
        have s1 : w4.cell? ⟨BT, 1, none⟩ = some (.bool tn) := HT4.out.cell 1
        have s2 : w4.cell? ⟨BT, 2, none⟩ = some (.string tv) := HT4.out.cell 2
        have s3 : w4.cell? ⟨BT, 3, none⟩ = some (.int .i64 tk) := HT4.out.cell 3
        have s4 : w4.cell? ⟨BT, 4, none⟩ = some (.int .i64 ti) := HT4.out.cell 4
        have s5 : w4.cell? ⟨BT, 5, none⟩ = some (.string ts) := HT4.out.cell 5
        have q0 : w4.cell? ⟨BT + 1, 0, none⟩ = some (.int .i64 vk) := HV4.out.cell 0
        have q1 : w4.cell? ⟨BT + 1, 1, none⟩ = some (.int .i64 vi) := HV4.out.cell 1
        have q2 : w4.cell? ⟨BT + 1, 2, none⟩ = some (.string vs) := HV4.out.cell 2
        have hlb : BT + 1 < w4.heap.size := HV4.out.lt
        have hlb0 : BT < w4.heap.size := by omega
        clear hb4 c0 c1 c2 c3 c4 c5 v0 v1 v2 y2 hbly hblv HGt HWn HT3 HV3 HW HW3
        cases gb with
        | true =>
          have HGs : Hid (gtB G tv = some ⟨gn, gk, gi, gs⟩) := by
            have := Hg.out
            unfold gtV at this
            split at this
            · rename_i x hx2; cases this; exact hx2
            · cases this
          obtain ⟨hh, Hhh⟩ : ∃ hh, Hid (holdT ⟨tp, tn, tv, tk, ti, ts⟩ vk vi vs gk gi gs = hh) := ⟨_, rfl⟩
          have HHo : Hid (∀ w', Calls Tryz.prog 71 #[.agg #[.int .i64 (tp : Int), .bool tn, .string tv, .int .i64 tk, .int .i64 ti, .string ts], .agg #[.int .i64 (vk), .int .i64 (vi), .string (vs)], .agg #[.int .i64 (gk), .int .i64 (gi), .string (gs)]] w' fun e w2 => e = .returned (.bool hh) ∧ Below w'.heap.size w' w2) := by
            intro w'; rw [← Hhh.out]; exact holds_any tp tn tv tk ti ts vk vi vs gk gi gs w'
          have HSt : Hid (stepV fl G ⟨tp, tn, tv, tk, ti, ts⟩ = if hh = true then some G else none) := by
            rw [Hid, ← Hhh.out]; exact stepV_old (t := ⟨tp, tn, tv, tk, ti, ts⟩) hx HV.out HGs.out
          clear hx HV Hg HGs Hhh
          cases hh with
          | false =>
            obtain rfl : Q = none := by rw [← HM.out.1]; exact matchV_end HT.out HG.out HSt.out
            clear HT HG HSt HM
            go_wp2_with fail
            refine (HHo.out _).mono ?_
            rintro e w5 ⟨rfl, hb5⟩
            have HB5 : Hid (Below w.heap.size w w5) := next_trans (next_trans HW4.out.bel (alloc_below _ _)) hb5
            clear hb5 HW4 HT4 HV4 s0 s1 s2 s3 s4 s5 q0 q1 q2
            go_wp2
            go_ret2
            exact ⟨rfl, HB5.out⟩
          | true =>
            have HG2 : Hid (matchV fl (pl.take (k + 1)) E = some G) := matchV_go HT.out HG.out HSt.out
            clear HT HG HSt
            go_wp2_with fail
            refine (HHo.out _).mono ?_
            rintro e w5 ⟨rfl, hb5⟩
            have HW5 : Hid (MtW w w5 (.slice (some ⟨vb, vo, none⟩) N fc) (.slice ro rn rc) rn G) := (HW4.out.next (alloc_below _ _)).next hb5
            clear hb5 HW4 HT4 HV4 s0 s1 s2 s3 s4 s5 q0 q1 q2
            go_wp2
            go_roundw
            case rel => exact ⟨k + 1, G, ro, rn, rc, by omega, by go_num, rfl, by omega, HW5, HG2⟩
            case measure => simp [intOf]; omega
        | false =>
          have HGs : Hid (gtB G tv = none) := by
            have := Hg.out
            unfold gtV at this
            split at this
            · cases this
            · rename_i hx2; exact hx2
          have HSt : Hid (stepV fl G ⟨tp, tn, tv, tk, ti, ts⟩ = if tn = true then none else some (G ++ [⟨tv, vk, vi, vs⟩])) := stepV_new (t := ⟨tp, tn, tv, tk, ti, ts⟩) hx HV.out HGs.out
          clear hx HV Hg HGs
          cases tn with
          | true =>
            obtain rfl : Q = none := by rw [← HM.out.1]; exact matchV_end HT.out HG.out HSt.out
            have HB5 : Hid (Below w.heap.size w (w4.alloc (.cells #[.int .i64 gk, .int .i64 gi, .string gs] 71))) := next_trans HW4.out.bel (alloc_below _ _)
            clear HT HG HSt HM HW4 HT4 HV4
            go_wp2
            go_ret2
            exact ⟨rfl, HB5.out⟩
          | false =>
            have HG2 : Hid (matchV fl (pl.take (k + 1)) E = some (G ++ [⟨tv, vk, vi, vs⟩])) := matchV_go HT.out HG.out HSt.out
            clear HT HG HSt
            obtain ⟨i0, hi, hz0, hz1, hz2⟩ := infoBd'
            have hrn2 : rn ≤ 2000 := by omega
            have HO4 : Hid (w4.ownsRow (w.heap.size + 2) 91 4 (.slice ro rn rc) rn (slsC G)) := HW4.out.own
            have HOb : Hid (∀ j, (Value.slice ro rn rc).ownBlock = some j → w.heap.size + 2 ≤ j ∧ j < w4.heap.size) := fun j hj => HO4.out.lt j hj
            have hl4 : w.heap.size + 1 < w4.heap.size := World.block_lt_of_cell? w4 _ HW4.out.f
            go_wp2_with (at_builtin; refine wpList_append_own _ rfl _ _ 67 rfl (w.heap.size + 2) 91 i0 zeroSl 4 48 Tryz.underlying67 hi hz0 hz1 hz2 rfl (by decide) _ _ _ rfl ((HO4.out.alloc _).alloc _) ⟨w4.heap.size + 1, 0, none⟩ 1 1 [.string tv, .int .i64 vk, .int .i64 vi, .string vs] rfl rfl ?c1 ?c2 ?c3 ?c4 ?c5 ?_)
            case c1 =>
              intro j u hj
              match j, hj with
              | 0, hj => simp at hj; subst hj; simp [Addr.add]
              | 1, hj => simp at hj; subst hj; simp [Addr.add]
              | 2, hj => simp at hj; subst hj; simp [Addr.add]
              | 3, hj => simp at hj; subst hj; simp [Addr.add]
            case c2 => intro u hu; simp at hu; rcases hu with rfl | rfl | rfl | rfl <;> rfl
            case c3 => unfold maxLen; omega
            case c4 => omega
            case c5 => simp; omega
            intro s2' w7 ho hg _
            have HW7 : Hid (MtW w w7 (.slice (some ⟨vb, vo, none⟩) N fc) s2' (rn + 1) (G ++ [⟨tv, vk, vi, vs⟩])) := by
              refine ⟨?_, ?_, ?_, ?_⟩
              · have hs := HW4.out.bel.size
                refine HW4.out.bel.trans ((((Below.refl _ w4).alloc hs _).alloc (by simp; omega) _).grown hg (by simp; omega) (fun k hk => ?_))
                have := (HOb.out k hk).1
                omega
              · have hh : w7.heap[w.heap.size + 1]? = w4.heap[w.heap.size + 1]? := by
                  rw [hg.block _ (by simp; omega) (fun e => by have := (HOb.out _ e.symm).1; omega), Below.heap_alloc _ _ _ (by simp; omega), Below.heap_alloc _ _ _ (by omega)]
                rw [World.cell?_of_block (a := ⟨w.heap.size + 1, 2, none⟩) hh]; exact HW4.out.f
              · rw [← slsC_snoc]; exact ho
              · rw [List.length_append, HW4.out.len]; rfl
            obtain ⟨ro2, rc2, hs2, _, _⟩ := own_sls HW7.out.len HW7.out.own
            subst hs2
            clear ho hg HW4 HT4 HV4 HO4 HOb hi hz0 hz1 hz2 s0 s1 s2 s3 s4 s5 q0 q1 q2
            go_wp2
            go_roundw
            case rel => exact ⟨k + 1, _, ro2, rn + 1, rc2, by omega, by go_num, rfl, by omega, HW7, HG2⟩
            case measure => simp [intOf]; omega
      · have hki : ¬ (k : Int) < (C : Int) := by omega
        obtain rfl : Q = some G := by
          rw [← HM.out.1, ← HG.out, List.take_of_length_le (by rw [HC.out]; omega)]
        obtain ⟨ro2, rc2, hs2, hsl, _⟩ := own_sls HW.out.len HW.out.own
        cases hs2
        have HSl : Hid (IsSls wr ro G) := hsl
        have HBe : Hid (Below w.heap.size w wr) := HW.out.bel
        have hlen := HW.out.len
        clear hsl HW HG HM
        go_wp2
        go_ret2
        exact ⟨⟨ro, rc, by rw [hlen]; rfl, HSl.out⟩, HBe.out⟩
end Go.Proofs.YtnhbjhdkpbhioaaGreatDoor
