/- The reference's Node of a template. -/
import Derived.Deep.RegionHeldLaw
import Derived.Deep.RegionHeld3
import Derived.Test.YtlniifheapoppaaGreatDoorG26
import Derived.Test.YtlniifheapoppaaGreatDoorG25
namespace Go.Proofs.YtlniifheapoppaaGreatDoor
open Go.RowKit

theorem rsym5_any (Y : ByteArray) (w : World) :
    Calls Tryz.prog 51 #[.string Y] w fun e w' => e = .returned (.agg #[.int .i64 (2), .int .i64 (0), .int .i64 (0), .string (Y), .slice none 0 0]) ∧ Below w.heap.size w w' := by
  go_enter Tryz.func51, Tryz.ntmps51
  go_wp2
  exact bodyPost_ret (v := .agg #[.int .i64 (2), .int .i64 (0), .int .i64 (0), .string (Y), .slice none 0 0]) (by simp [results, Tryz.results51, go_sem]) rfl ⟨rfl, alloc_below _ _⟩
theorem rl5_any (ao : Option Addr) (n cap : Nat) (w : World) :
    Calls Tryz.prog 52 #[.slice ao n cap] w fun e w' => e = .returned (.agg #[.int .i64 (0), .int .i64 (0), .int .i64 (0), .string (⟨#[]⟩), .slice ao n cap]) ∧ Below w.heap.size w w' := by
  go_enter Tryz.func52, Tryz.ntmps52
  go_wp2
  exact bodyPost_ret (v := .agg #[.int .i64 (0), .int .i64 (0), .int .i64 (0), .string (⟨#[]⟩), .slice ao n cap]) (by simp [results, Tryz.results52, go_sem]) rfl ⟨rfl, alloc_below _ _⟩
theorem rof5_any (k i : Int) (s : ByteArray) (w : World) :
    Calls Tryz.prog 53 #[.agg #[.int .i64 (k), .int .i64 (i), .string (s)]] w fun e w' => e = .returned (.agg #[.int .i64 (k), .int .i64 (0), .int .i64 (i), .string (s), .slice none 0 0]) ∧ Below w.heap.size w w' := by
  go_enter Tryz.func53, Tryz.ntmps53
  go_wp2
  exact bodyPost_ret (v := .agg #[.int .i64 (k), .int .i64 (0), .int .i64 (i), .string (s), .slice none 0 0]) (by simp [results, Tryz.results53, go_sem]) rfl ⟨rfl, next_trans (alloc_below _ _) (alloc_below _ _)⟩
structure RnW (w wr : World) (tn : ByteArray) (ao : Option Addr) (M cap : Nat) (v : Value) (cs : List Nc) (xs : List Nd) : Prop where
  bel : Below w.heap.size w wr
  x : Bx wr w.heap.size #[.string tn, .slice ao M cap]
  r : Bx wr (w.heap.size + 1) #[.int .i64 0, .int .i64 0, .int .i64 0, .string ⟨#[]⟩, .slice none 0 0]
  own : wr.ownsRow (w.heap.size + 2) 42 5 v cs.length (ncsC cs)
  kids : NcsIs wr (offB (w.heap.size + 2) v) cs xs
theorem RnW.next {w wr w' : World} {tn : ByteArray} {ao : Option Addr} {M cap : Nat} {v : Value} {cs : List Nc} {xs : List Nd} (h : RnW w wr tn ao M cap v cs xs) (hb : Below wr.heap.size wr w') : RnW w w' tn ao M cap v cs xs :=
  ⟨next_trans h.bel hb, h.x.next hb, h.r.next hb, own_next h.own hb, h.kids.next hb⟩
theorem two_row {w4 : World} {base : Nat} (B : Nat) (a tn : ByteArray) (s : List UInt8) (ha : a = baL s) (hl : base ≤ w4.heap.size) :
    (w4.alloc (.cells #[.int .i64 2, .int .i64 0, .int .i64 0, .string a, .slice none 0 0, .int .i64 2, .int .i64 0, .int .i64 0, .string tn, .slice none 0 0] B)).ownsRow base B 5 (.slice (some ⟨w4.heap.size, 0, none⟩) 2 2) 2 (ncsC [⟨2, 0, 0, s, none, 0, 0⟩, ⟨2, 0, 0, tn.data.toList, none, 0, 0⟩]) := by
  subst ha
  have := World.ownsRow_lit (base := base) (e := B) (size := 5) w4 #[.int .i64 2, .int .i64 0, .int .i64 0, .string (baL s), .slice none 0 0, .int .i64 2, .int .i64 0, .int .i64 0, .string tn, .slice none 0 0] 2 hl (by unfold maxLen; omega) rfl
  have e : ncsC [⟨2, 0, 0, s, none, 0, 0⟩, ⟨2, 0, 0, tn.data.toList, none, 0, 0⟩] = (#[.int .i64 2, .int .i64 0, .int .i64 0, .string (baL s), .slice none 0 0, .int .i64 2, .int .i64 0, .int .i64 0, .string tn, .slice none 0 0] : Array Value).toList := by
    show [Value.int .i64 2, .int .i64 0, .int .i64 0, .string (baL s), .slice none 0 0, .int .i64 2, .int .i64 0, .int .i64 0, .string (baL tn.data.toList), .slice none 0 0] = _
    rw [ba_self]
  rw [e]; exact this
theorem rn_start {w w4 : World} {tn : ByteArray} {ao : Option Addr} {M cap : Nat} (h : TnA w w4 tn ao M cap) :
    RnW w (w4.alloc (.cells #[.int .i64 2, .int .i64 0, .int .i64 0, .string ⟨#[100, 101, 102, 116, 101, 109, 112, 108, 97, 116, 101]⟩, .slice none 0 0, .int .i64 2, .int .i64 0, .int .i64 0, .string tn, .slice none 0 0] 42)) tn ao M cap (.slice (some ⟨w4.heap.size, 0, none⟩) 2 2)
      [⟨2, 0, 0, wTmpl, none, 0, 0⟩, ⟨2, 0, 0, tn.data.toList, none, 0, 0⟩] [tsym wTmpl, tsym tn.data.toList] :=
  ⟨next_trans h.bel (alloc_below _ _), h.x.alloc _, h.r.alloc _, two_row 42 ⟨#[100, 101, 102, 116, 101, 109, 112, 108, 97, 116, 101]⟩ tn wTmpl rfl h.r.lt, nc_sym _ _ _, nc_sym _ _ _, trivial⟩

set_option maxHeartbeats 16000000 in
set_option maxRecDepth 8000 in
theorem rtnode_any (T : Tp) (ao : Option Addr) (cap : Nat) (w : World) (hN : T.l.length ≤ 1000) (h : IsSls w ao T.l) :
    Calls Tryz.prog 18 #[tmV T ao cap] w fun e w' => MkR w w' e (tmplNd T) ∧ Below w.heap.size w w' := by
  obtain ⟨tn, l⟩ := T
  unfold tmV
  simp only at hN h ⊢
  obtain ⟨N, HN⟩ : ∃ N, Hid (l.length = N) := ⟨_, rfl⟩
  obtain ⟨x, HX⟩ : ∃ x, Hid (tmplNd ⟨tn, l⟩ = x) := ⟨_, rfl⟩
  rw [HN.out, HX.out]
  rw [HN.out] at hN
  have HI : Hid (IsSls w ao l) := h
  have HSy : Hid (∀ (Y : ByteArray) (w : World), Calls Tryz.prog 51 #[.string Y] w fun e w' => e = .returned (.agg #[.int .i64 (2), .int .i64 (0), .int .i64 (0), .string (Y), .slice none 0 0]) ∧ Below w.heap.size w w') := rsym5_any
  have HLs : Hid (∀ (ao : Option Addr) (n cap : Nat) (w : World), Calls Tryz.prog 52 #[.slice ao n cap] w fun e w' => e = .returned (.agg #[.int .i64 (0), .int .i64 (0), .int .i64 (0), .string (⟨#[]⟩), .slice ao n cap]) ∧ Below w.heap.size w w') := rl5_any
  obtain ⟨W, HWe⟩ : ∃ W, Hid ((w.alloc (.cells #[.string tn, .slice ao N cap] 45)).alloc (.cells #[.int .i64 0, .int .i64 0, .int .i64 0, .string ⟨#[]⟩, .slice none 0 0] 42) = W) := ⟨_, rfl⟩
  have HW : Hid (TnA w W tn ao N cap) := by
    refine ⟨?_, ?_, ?_⟩
    · rw [← HWe.out]; exact next_trans (alloc_below _ _) (alloc_below _ _)
    · rw [← HWe.out]; exact (Bx.made _ _ _).alloc _
    · exact Bx.made' HWe.out (by simp)
  clear h
  go_enter Tryz.func18, Tryz.ntmps18
  go_wp2_with fail
  rw [HWe.out]
  clear HWe
  have x0 : W.cell? ⟨w.heap.size, 0, none⟩ = some (.string tn) := HW.out.x.cell 0
  have x1 : W.cell? ⟨w.heap.size, 1, none⟩ = some (.slice ao N cap) := HW.out.x.cell 1
  go_region_held3 (fun w' => w'.cell? ⟨w.heap.size, 0, none⟩ = some (.string tn) ∧ w'.cell? ⟨w.heap.size, 1, none⟩ = some (.slice ao N cap))
    (((try dsimp only); go_split_ands; refine ⟨?_, ?_⟩ <;> first | assumption | exact keep_cell (by assumption) (by assumption) | exact alloc_cell (by assumption)))
    (first
      | (go_at_call 51; have _g := hb3; refine (HSy.out _ _).mono ?_; rintro e w4 ⟨rfl, hb⟩; have hb4 := hb; have HW4 : Hid (TnA w w4 tn ao N cap) := HW3.out.next hb4)
      | (go_at_call 51; refine (HSy.out _ _).mono ?_; rintro e w3 ⟨rfl, hb⟩; have hb3 := hb; have HW3 : Hid (TnA w w3 tn ao N cap) := HW.out.next (below_undrawn hb3)))
  all_goals
    go_split_ands
    have HI0 : Hid _ := rn_start HW4.out
    have n1 : w4.cell? ⟨w.heap.size, 1, none⟩ = some (.slice ao N cap) := HW4.out.x.cell 1
    clear HW3 HW x0 x1
    go_wp2
    clear n1
    go_loopw [3, 4] (fun v q wr => ∃ (k : Nat) (cs : List Nc), k ≤ N ∧ q = .int .i64 k ∧ Hid (RnW w wr tn ao N cap v cs (kidsT tn (l.take k)))) (fun _ q _ => N - (intOf q).toNat)
    case atStart => exact ⟨0, _, Nat.zero_le _, rfl, HI0⟩
    case round =>
      obtain ⟨k, cs, hk, rfl, HT⟩ := hrel
      clear HI0 HW4
      obtain ⟨vao, vn, vcap, hv⟩ : ∃ vao vn vcap, u3 = .slice vao vn vcap := by
        rcases HT.out.own.2 with ⟨e, _⟩ | ⟨gg, cap, cur, e, _⟩
        · exact ⟨_, _, _, e⟩
        · exact ⟨_, _, _, e⟩
      subst hv
      have hlr : w.heap.size + 1 < wr.heap.size := HT.out.r.lt
      have x1 : wr.cell? ⟨w.heap.size, 1, none⟩ = some (.slice ao N cap) := HT.out.x.cell 1
      by_cases hlt : k < N
      · have hki : (k : Int) < (N : Int) := by omega
        have hk0 : (0 : Int) ≤ (k : Int) := by omega
        obtain ⟨s, hs⟩ : ∃ s, l[k]? = some s := ⟨_, List.getElem?_eq_getElem (by rw [HN.out]; exact hlt)⟩
        obtain ⟨b, o, rfl, c0, c1, c2, c3⟩ := (HI.out.next HT.out.bel) k s hs
        have HKs : Hid (kidsT tn (l.take (k + 1)) = kidsT tn (l.take k) ++ [slotNd s]) := kidsT_snoc hs
        obtain ⟨sn, sk, si, ss⟩ := s
        simp only at c0 c1 c2 c3
        have hcl : cs.length ≤ 2000 := by
          have h1 := HT.out.kids.len
          unfold kidsT at h1
          rw [List.length_cons, List.length_cons, List.length_map, List.length_take] at h1
          omega
        obtain ⟨q, HQ⟩ : ∃ q, Hid (nilS ⟨sn, sk, si, ss⟩ = q) := ⟨_, rfl⟩
        have HSm : Hid (∀ w : World, Calls Tryz.prog 46 #[.agg #[.int .i64 (sk), .int .i64 (si), .string (ss)], .agg #[.int .i64 (2), .int .i64 (0), .string (baL wNil)]] w fun e w' => e = .returned (.bool q) ∧ Below w.heap.size w w') := by
          intro w; rw [← HQ.out]; exact rsame_any sk si 2 0 ss _ w
        have HOb : Hid (∀ j, (Value.slice vao vn vcap).ownBlock = some j → w.heap.size + 2 ≤ j ∧ j < wr.heap.size) := fun j hj => HT.out.own.lt j hj
        have hob : b < wr.heap.size := World.block_lt_of_cell? wr ⟨b, _, none⟩ c0
        clear hs
        go_wp2
        go_region_held3 (fun w' => w'.cell? ⟨w.heap.size, 1, none⟩ = some (.slice (some ⟨b, o, none⟩) N cap) ∧ w'.cell? ⟨b, o + k * 4, none⟩ = some (.string sn) ∧ w'.cell? ⟨b, o + k * 4 + 1, none⟩ = some (.int .i64 sk) ∧ w'.cell? ⟨b, o + k * 4 + 2, none⟩ = some (.int .i64 si) ∧ w'.cell? ⟨b, o + k * 4 + 3, none⟩ = some (.string ss))
          (((try dsimp only); go_split_ands; refine ⟨?_, ?_, ?_, ?_, ?_⟩ <;> first | assumption | exact keep_cell (by assumption) (by assumption) | exact alloc_cell (by assumption)))
          (first
            | (go_at_call 51; have _g := hb3; refine (HSy.out _ _).mono ?_; rintro e w4 ⟨rfl, hb⟩; have hb4 := hb; have HT4 : Hid (RnW w w4 tn (some ⟨b, o, none⟩) N cap (.slice vao vn vcap) cs (kidsT tn (l.take k))) := HT3.out.next hb4)
            | (go_at_call 51; refine (HSy.out _ _).mono ?_; rintro e w3 ⟨rfl, hb⟩; have hb3 := hb; have HT3 : Hid (RnW w w3 tn (some ⟨b, o, none⟩) N cap (.slice vao vn vcap) cs (kidsT tn (l.take k))) := HT.out.next (below_undrawn hb3)))
        all_goals
          go_split_ands
          obtain ⟨PS, HPS⟩ : ∃ PS, Hid (w4.heap.size = PS) := ⟨_, rfl⟩
          obtain ⟨W5, HW5⟩ : ∃ W5, Hid (w4.alloc (.cells #[.int .i64 2, .int .i64 0, .int .i64 0, .string ⟨#[115, 108, 111, 116]⟩, .slice none 0 0, .int .i64 2, .int .i64 0, .int .i64 0, .string sn, .slice none 0 0] 42) = W5) := ⟨_, rfl⟩
          have HO5 : Hid (W5.ownsRow PS 42 5 (.slice (some ⟨PS, 0, none⟩) 2 2) 2 (ncsC [⟨2, 0, 0, wSlot, none, 0, 0⟩, ⟨2, 0, 0, sn.data.toList, none, 0, 0⟩])) := by
            rw [← HW5.out, ← HPS.out]; exact two_row 42 ⟨#[115, 108, 111, 116]⟩ sn wSlot rfl (Nat.le_refl _)
          have HT5 : Hid (RnW w W5 tn (some ⟨b, o, none⟩) N cap (.slice vao vn vcap) cs (kidsT tn (l.take k))) := by rw [← HW5.out]; exact HT4.out.next (alloc_below _ _)
          have hps : wr.heap.size ≤ PS := by rw [← HPS.out]; exact Nat.le_trans (below_undrawn hb3).size hb4.size
          have hps2 : PS < W5.heap.size := by rw [← HW5.out, World.size_alloc, HPS.out]; omega
          have HBr5 : Hid (Below wr.heap.size wr W5) := by rw [← HW5.out]; exact next_trans (next_trans (below_undrawn hb3) hb4) (alloc_below _ _)
          have y1 : W5.cell? ⟨w.heap.size, 1, none⟩ = some (.slice (some ⟨b, o, none⟩) N cap) := HT5.out.x.cell 1
          have d0 : W5.cell? ⟨b, o + k * 4, none⟩ = some (.string sn) := by rw [← HW5.out]; exact alloc_cell (keep_cell hb4 (keep_cell (below_undrawn hb3) c0))
          have d1 : W5.cell? ⟨b, o + k * 4 + 1, none⟩ = some (.int .i64 sk) := by rw [← HW5.out]; exact alloc_cell (keep_cell hb4 (keep_cell (below_undrawn hb3) c1))
          have d2 : W5.cell? ⟨b, o + k * 4 + 2, none⟩ = some (.int .i64 si) := by rw [← HW5.out]; exact alloc_cell (keep_cell hb4 (keep_cell (below_undrawn hb3) c2))
          have d3 : W5.cell? ⟨b, o + k * 4 + 3, none⟩ = some (.string ss) := by rw [← HW5.out]; exact alloc_cell (keep_cell hb4 (keep_cell (below_undrawn hb3) c3))
          go_wp2
          rw [HW5.out, HPS.out]
          clear HW5 HPS c0 c1 c2 c3 x1 HT4 HT3 hb3 hb4 hb
          go_region_held3 (fun w' => w'.cell? ⟨w.heap.size, 1, none⟩ = some (.slice (some ⟨b, o, none⟩) N cap) ∧ w'.cell? ⟨b, o + k * 4, none⟩ = some (.string sn) ∧ w'.cell? ⟨b, o + k * 4 + 1, none⟩ = some (.int .i64 sk) ∧ w'.cell? ⟨b, o + k * 4 + 2, none⟩ = some (.int .i64 si) ∧ w'.cell? ⟨b, o + k * 4 + 3, none⟩ = some (.string ss))
            (((try dsimp only); go_split_ands; refine ⟨?_, ?_, ?_, ?_, ?_⟩ <;> first | assumption | exact keep_cell (by assumption) (by assumption) | exact alloc_cell (by assumption)))
            (first
              | (go_at_call 30; refine (rsym_any _ _).mono ?_; rintro e w6 ⟨rfl, hb⟩; have hb6 := hb)
              | (go_at_call 46; refine (HSm.out _).mono ?_; rintro e w7 ⟨rfl, hb⟩; have hb7 := hb))
          all_goals
            go_split_ands
            have HBr7 : Hid (Below wr.heap.size wr w7) := next_trans HBr5.out (next_trans (below_undrawn hb6) hb7)
            have HB57 : Hid (Below W5.heap.size W5 w7) := next_trans (below_undrawn hb6) hb7
            have HT7 : Hid (RnW w w7 tn (some ⟨b, o, none⟩) N cap (.slice vao vn vcap) cs (kidsT tn (l.take k))) := HT5.out.next HB57.out
            have HO7 : Hid (w7.ownsRow PS 42 5 (.slice (some ⟨PS, 0, none⟩) 2 2) 2 (ncsC [⟨2, 0, 0, wSlot, none, 0, 0⟩, ⟨2, 0, 0, sn.data.toList, none, 0, 0⟩])) := own_next HO5.out HB57.out
            have hp7 : PS < w7.heap.size := Nat.lt_of_lt_of_le hps2 HB57.out.size
            have e0 := keep_cell HB57.out d0
            have e1 := keep_cell HB57.out d1
            have e2 := keep_cell HB57.out d2
            have e3 := keep_cell HB57.out d3
            have y7 := keep_cell HB57.out y1
            clear d0 d1 d2 d3 y1 HT5 HO5 hb6 hb7 hb HB57 hps2
            cases q with
            | true =>
              have HXs : Hid (slotNd ⟨sn, sk, si, ss⟩ = ⟨0, 0, 0, [], [tsym wSlot, tsym sn.data.toList]⟩) := by rw [Hid]; unfold slotNd; rw [HQ.out]; rfl
              go_wp2_with fail
              refine (HLs.out _ _ _ _).mono ?_
              rintro e w8 ⟨rfl, hb8⟩
              have HT8 : Hid (RnW w w8 tn (some ⟨b, o, none⟩) N cap (.slice vao vn vcap) cs (kidsT tn (l.take k))) := HT7.out.next hb8
              have HO8 : Hid (w8.ownsRow PS 42 5 (.slice (some ⟨PS, 0, none⟩) 2 2) 2 (ncsC [⟨2, 0, 0, wSlot, none, 0, 0⟩, ⟨2, 0, 0, sn.data.toList, none, 0, 0⟩])) := own_next HO7.out hb8
              have HC : Hid (NcIs w8 (offB (w.heap.size + 2) (.slice vao vn vcap)) ⟨0, 0, 0, [], some ⟨PS, 0, none⟩, 2, 2⟩ (slotNd ⟨sn, sk, si, ss⟩)) := by
                rw [Hid, HXs.out]
                obtain ⟨lao, lcap, hv, hvc, hnd⟩ := own_nds (L := [⟨2, 0, 0, wSlot, none, 0, 0⟩, ⟨2, 0, 0, sn.data.toList, none, 0, 0⟩]) (l := [tsym wSlot, tsym sn.data.toList]) (S := geB PS) HO8.out ⟨nc_sym _ _ _, nc_sym _ _ _, trivial⟩ (fun j hj _ => hj)
                injection hv with hv1 hv2 hv3
                subst hv1 hv3
                exact ⟨rfl, rfl, rfl, rfl, rfl, Nat.le_refl _, hnd.keep fun j hj _ => ⟨rfl, by unfold geB at hj; omega, fun e => by have := (HOb.out j e).2; unfold geB at hj; omega⟩⟩
              obtain ⟨i0, hi, hz0, hz1', hz2'⟩ := inRN'
              have HOw : Hid (w8.ownsRow (w.heap.size + 2) 42 5 (.slice vao vn vcap) cs.length (ncsC cs)) := HT8.out.own
              have hlt9 : w.heap.size + 1 < w8.heap.size := HT8.out.r.lt
              clear hb8 HT7 HO7 HO8 HXs e0 e1 e2 e3 y7 HSm
              go_wp2_with (at_builtin; refine wpList_append_lies _ rfl _ _ 24 rfl (w.heap.size + 2) 42 i0 zeroNd 5 64 Tryz.underlying24 hi hz0 hz1' hz2' rfl (by decide) _ _ _ rfl (HOw.out.alloc _) ⟨w8.heap.size, 0, none⟩ 1 1 [.int .i64 0, .int .i64 0, .int .i64 0, .string ⟨#[]⟩, .slice (some ⟨PS, 0, none⟩) 2 2] rfl rfl ?c1 ?c2 (by decide) ?c3 ?c4 ?c5 _ rfl ?_)
              case c1 =>
                intro j u hj
                match j, hj with
                | 0, hj => simp at hj; subst hj; simp [Addr.add]
                | 1, hj => simp at hj; subst hj; simp [Addr.add]
                | 2, hj => simp at hj; subst hj; simp [Addr.add]
                | 3, hj => simp at hj; subst hj; simp [Addr.add]
                | 4, hj => simp at hj; subst hj; simp [Addr.add]
              case c2 => intro u hu; simp at hu; rcases hu with rfl | rfl | rfl | rfl | rfl <;> rfl
              case c3 => unfold maxLen; omega
              case c4 => omega
              case c5 => simp; omega
              intro gk9 gcap9 w9 ho hg hv3 hlt3
              have HN3 : Hid (RnW w w9 tn (some ⟨b, o, none⟩) N cap (.slice (some ⟨gk9, 0, none⟩) (cs.length + 1) gcap9) (cs ++ [(⟨0, 0, 0, [], some ⟨PS, 0, none⟩, 2, 2⟩ : Nc)]) (kidsT tn (l.take (k + 1)))) := by
                have hgb : ∀ j, j < w.heap.size + 2 → w9.heap[j]? = w8.heap[j]? := fun j hj => by
                  rw [hg.block j (by simp; omega) (fun e => by have := (HOb.out j e.symm).1; omega), Below.heap_alloc _ _ _ (by omega)]
                refine ⟨?_, HT8.out.x.keep (hgb _ (by omega)), HT8.out.r.keep (hgb _ (by omega)), ?_, ?_⟩
                · have hs := HT8.out.bel.size
                  exact HT8.out.bel.trans (((Below.refl _ w8).alloc hs _).grown hg (by simp; omega) (fun j hj => by have := (HOb.out j hj).1; omega))
                · rw [← ncs_snoc, List.length_append]; exact ho
                · rw [HKs.out]
                  exact ncs_grow ((NcsIs.snoc HC.out HT8.out.kids).next (alloc_below _ _)) hg hv3 (by simp)
              clear ho hg hv3 HT8 HOw HOb HC HKs
              go_wp2
              go_roundw
              case rel => exact ⟨k + 1, _, by omega, by go_num, HN3⟩
              case measure => simp [intOf]; omega
            | false =>
              have HXs : Hid (slotNd ⟨sn, sk, si, ss⟩ = ⟨0, 0, 0, [], [tsym wSlot, tsym sn.data.toList, ⟨0, 0, 0, [], [tsym wDef, ⟨sk, 0, si, ss.data.toList, []⟩]⟩]⟩) := by rw [Hid]; unfold slotNd; rw [HQ.out]; rfl
              obtain ⟨i0, hi, hz0, hz1, hz2⟩ := inRN'
              have hlw7 : w.heap.size + 1 < w7.heap.size := HT7.out.r.lt
              have HPb : Hid (∀ j, (Value.slice (some ⟨PS, 0, none⟩) 2 2).ownBlock = some j → j = PS) := fun j e => by cases e; rfl
              go_wp2
              go_region_held_law (fun w' => w'.cell? ⟨w.heap.size, 1, none⟩ = some (.slice (some ⟨b, o, none⟩) N cap) ∧ w'.cell? ⟨b, o + k * 4, none⟩ = some (.string sn) ∧ w'.cell? ⟨b, o + k * 4 + 1, none⟩ = some (.int .i64 sk) ∧ w'.cell? ⟨b, o + k * 4 + 2, none⟩ = some (.int .i64 si) ∧ w'.cell? ⟨b, o + k * 4 + 3, none⟩ = some (.string ss))
                (((try dsimp only); go_split_ands; refine ⟨?_, ?_, ?_, ?_, ?_⟩ <;> first | assumption | exact keep_cell (by assumption) (by assumption) | exact alloc_cell (by assumption) | exact (by assumption : _ → _ → _ → _) _ _ _))
                (first
                  | ((refine step_append_lies _ (by rfl) _ _ _ (by rfl) PS 42 i0 zeroNd 5 64 Tryz.underlying24 hi hz0 hz1 hz2 rfl (by decide) (.slice (some ⟨PS, 0, none⟩) 2 2) 2 (ncsC [⟨2, 0, 0, wSlot, none, 0, 0⟩, ⟨2, 0, 0, sn.data.toList, none, 0, 0⟩]) (by rfl) (HOe.out.alloc _) ⟨we.heap.size, 0, none⟩ 1 1 [.int .i64 0, .int .i64 0, .int .i64 0, .string ⟨#[]⟩, .slice (some ⟨wd.heap.size, 0, none⟩) 2 2] (by rfl) (by rfl) (World.news_of_block (cs := #[.int .i64 0, .int .i64 0, .int .i64 0, .string ⟨#[]⟩, .slice (some ⟨wd.heap.size, 0, none⟩) 2 2]) (t := 42) (fr := (0, 0)) (heap_alloc_new we _)) (by simp [Value.oneCell']) (by decide) (by unfold maxLen; omega) (by omega) (by simp; omega) (we.heap.size + 1) (by simp) ?_; intro gk gcap wf hown hgrow hat3 hlt3; have q0 := hgrow.cell (alloc_cell f0) (fun e => by have h9 : _ = PS := HPb.out _ e.symm; simp only at h9; omega); have q1 := hgrow.cell (alloc_cell f1) (fun e => by have h9 : _ = PS := HPb.out _ e.symm; simp only at h9; omega); have q2 := hgrow.cell (alloc_cell f2) (fun e => by have h9 : _ = PS := HPb.out _ e.symm; simp only at h9; omega); have q3 := hgrow.cell (alloc_cell f3) (fun e => by have h9 : _ = PS := HPb.out _ e.symm; simp only at h9; omega); have q4 := hgrow.cell (alloc_cell f4) (fun e => by have h9 : _ = PS := HPb.out _ e.symm; simp only at h9; omega)))
                  | (go_simp; go_at_call 51; refine (HSy.out _ _).mono ?_; rintro e wc ⟨rfl, hb⟩; have hbc := hb; have HTc : Hid (RnW w wc tn (some ⟨b, o, none⟩) N cap (.slice vao vn vcap) cs (kidsT tn (l.take k))) := HT7.out.next (below_undrawn hbc); have HOc : Hid (wc.ownsRow PS 42 5 (.slice (some ⟨PS, 0, none⟩) 2 2) 2 (ncsC [⟨2, 0, 0, wSlot, none, 0, 0⟩, ⟨2, 0, 0, sn.data.toList, none, 0, 0⟩])) := own_next HO7.out (below_undrawn hbc))
                  | (go_simp; go_at_call 53; refine (rof5_any _ _ _ _).mono ?_; rintro e wd ⟨rfl, hb⟩; have hbd := hb; have HTd : Hid (RnW w wd tn (some ⟨b, o, none⟩) N cap (.slice vao vn vcap) cs (kidsT tn (l.take k))) := HTc.out.next hbd; have HOd : Hid (wd.ownsRow PS 42 5 (.slice (some ⟨PS, 0, none⟩) 2 2) 2 (ncsC [⟨2, 0, 0, wSlot, none, 0, 0⟩, ⟨2, 0, 0, sn.data.toList, none, 0, 0⟩])) := own_next HOc.out hbd)
                  | (go_simp; go_at_call 52; refine (HLs.out _ _ _ _).mono ?_; rintro e we ⟨rfl, hb⟩; have hbe := hb; have HTe : Hid (RnW w we tn (some ⟨b, o, none⟩) N cap (.slice vao vn vcap) cs (kidsT tn (l.take k))) := HTd.out.next (next_trans (alloc_below _ _) hbe); have HOe : Hid (we.ownsRow PS 42 5 (.slice (some ⟨PS, 0, none⟩) 2 2) 2 (ncsC [⟨2, 0, 0, wSlot, none, 0, 0⟩, ⟨2, 0, 0, sn.data.toList, none, 0, 0⟩])) := own_next HOd.out (next_trans (alloc_below _ _) hbe); have HDe : Hid (Bx we wd.heap.size #[.int .i64 2, .int .i64 0, .int .i64 0, .string ⟨#[100, 101, 102, 97, 117, 108, 116]⟩, .slice none 0 0, .int .i64 sk, .int .i64 0, .int .i64 si, .string ss, .slice none 0 0]) := (Bx.made _ _ _).next hbe; have HB7e : Hid (Below w7.heap.size w7 we) := next_trans (next_trans (next_trans (below_undrawn hbc) hbd) (alloc_below _ _)) hbe; have f0 := keep_cell HB7e.out y7; have f1 := keep_cell HB7e.out e0; have f2 := keep_cell HB7e.out e1; have f3 := keep_cell HB7e.out e2; have f4 := keep_cell HB7e.out e3; have hpe : PS < we.heap.size := Nat.lt_of_lt_of_le hp7 HB7e.out.size))
              all_goals
                go_split_ands
                have HBe : Hid (Below wr.heap.size wr we) := next_trans HBr7.out HB7e.out
                have hld : PS < wd.heap.size := by
                  have h1 := (below_undrawn hbc).size
                  have h2 := hbd.size
                  omega
                have HBf : Hid (Below wr.heap.size wr wf) := by
                  have hs := HBe.out.size
                  exact HBe.out.trans (((Below.refl _ we).alloc hs _).grown hgrow (by simp; omega) (fun j hj => by have h9 : j = PS := HPb.out j hj; omega))
                have HTf : Hid (RnW w wf tn (some ⟨b, o, none⟩) N cap (.slice vao vn vcap) cs (kidsT tn (l.take k))) := HT.out.next HBf.out
                have HDf : Hid (Bx wf wd.heap.size #[.int .i64 2, .int .i64 0, .int .i64 0, .string ⟨#[100, 101, 102, 97, 117, 108, 116]⟩, .slice none 0 0, .int .i64 sk, .int .i64 0, .int .i64 si, .string ss, .slice none 0 0]) := (HDe.out.alloc _).keep (hgrow.block _ (by have := HDe.out.lt; simp; omega) (fun e => by have h9 : wd.heap.size = PS := HPb.out _ e.symm; omega))
                have HOf : Hid (wf.ownsRow PS 42 5 (.slice (some ⟨gk, 0, none⟩) 3 gcap) 3 (ncsC [⟨2, 0, 0, wSlot, none, 0, 0⟩, ⟨2, 0, 0, sn.data.toList, none, 0, 0⟩, ⟨0, 0, 0, [], some ⟨wd.heap.size, 0, none⟩, 2, 2⟩])) := hown
                have hpf : PS < wf.heap.size := by have := hgrow.size; simp at this; omega
                clear hown hgrow hat3 hlt3 q0 q1 q2 q3 q4 f0 f1 f2 f3 f4 HDe HOe HTe HTd HOd HTc HOc hbc hbd hbe hb HB7e HBe HBr5 HBr7 HT7 HO7
                go_wp2_with fail
                refine (HLs.out _ _ _ _).mono ?_
                rintro e w8 ⟨rfl, hb8⟩
                have HT8 : Hid (RnW w w8 tn (some ⟨b, o, none⟩) N cap (.slice vao vn vcap) cs (kidsT tn (l.take k))) := HTf.out.next hb8
                have HC : Hid (NcIs w8 (offB (w.heap.size + 2) (.slice vao vn vcap)) ⟨0, 0, 0, [], some ⟨gk, 0, none⟩, 3, gcap⟩ (slotNd ⟨sn, sk, si, ss⟩)) := by
                  rw [Hid, HXs.out]
                  obtain ⟨lao, lcap, hv, hvc, hnd⟩ := own_nds (L := [⟨2, 0, 0, wSlot, none, 0, 0⟩, ⟨2, 0, 0, sn.data.toList, none, 0, 0⟩, ⟨0, 0, 0, [], some ⟨wd.heap.size, 0, none⟩, 2, 2⟩]) (l := [tsym wSlot, tsym sn.data.toList, ⟨0, 0, 0, [], [tsym wDef, ⟨sk, 0, si, ss.data.toList, []⟩]⟩]) (S := geB PS) (own_next HOf.out hb8) ⟨nc_sym _ _ _, nc_sym _ _ _, ⟨rfl, rfl, rfl, rfl, rfl, Nat.le_refl _, (by
                    refine lit_nds (L := [⟨2, 0, 0, wDef, none, 0, 0⟩, ⟨sk, 0, si, ss.data.toList, none, 0, 0⟩]) ?_ (by unfold geB; omega) ⟨nc_sym _ _ _, NcIs.leaf _ _ _ _ _ _, trivial⟩
                    show Bx w8 wd.heap.size #[.int .i64 2, .int .i64 0, .int .i64 0, .string ⟨#[100, 101, 102, 97, 117, 108, 116]⟩, .slice none 0 0, .int .i64 sk, .int .i64 0, .int .i64 si, .string (baL ss.data.toList), .slice none 0 0]
                    rw [ba_self]; exact HDf.out.next hb8)⟩, trivial⟩ (fun j hj _ => hj)
                  injection hv with hv1 hv2 hv3
                  subst hv1 hv3
                  exact ⟨rfl, rfl, rfl, rfl, rfl, hvc, hnd.keep fun j hj _ => ⟨rfl, by unfold geB at hj; omega, fun e => by have := (HOb.out j e).2; unfold geB at hj; omega⟩⟩
                obtain ⟨i0, hi, hz0, hz1', hz2'⟩ := inRN'
                have HOw : Hid (w8.ownsRow (w.heap.size + 2) 42 5 (.slice vao vn vcap) cs.length (ncsC cs)) := HT8.out.own
                have hlt9 : w.heap.size + 1 < w8.heap.size := HT8.out.r.lt
                clear hb8 HTf HDf HOf HXs HBf HSm e0 e1 e2 e3 y7 HPb
                go_wp2_with (at_builtin; refine wpList_append_lies _ rfl _ _ 24 rfl (w.heap.size + 2) 42 i0 zeroNd 5 64 Tryz.underlying24 hi hz0 hz1' hz2' rfl (by decide) _ _ _ rfl (HOw.out.alloc _) ⟨w8.heap.size, 0, none⟩ 1 1 [.int .i64 0, .int .i64 0, .int .i64 0, .string ⟨#[]⟩, .slice (some ⟨gk, 0, none⟩) 3 gcap] rfl rfl ?c1 ?c2 (by decide) ?c3 ?c4 ?c5 _ rfl ?_)
                case c1 =>
                  intro j u hj
                  match j, hj with
                  | 0, hj => simp at hj; subst hj; simp [Addr.add]
                  | 1, hj => simp at hj; subst hj; simp [Addr.add]
                  | 2, hj => simp at hj; subst hj; simp [Addr.add]
                  | 3, hj => simp at hj; subst hj; simp [Addr.add]
                  | 4, hj => simp at hj; subst hj; simp [Addr.add]
                case c2 => intro u hu; simp at hu; rcases hu with rfl | rfl | rfl | rfl | rfl <;> rfl
                case c3 => unfold maxLen; omega
                case c4 => omega
                case c5 => simp; omega
                intro gk9 gcap9 w9 ho hg hv3 hlt3
                have HN3 : Hid (RnW w w9 tn (some ⟨b, o, none⟩) N cap (.slice (some ⟨gk9, 0, none⟩) (cs.length + 1) gcap9) (cs ++ [(⟨0, 0, 0, [], some ⟨gk, 0, none⟩, 3, gcap⟩ : Nc)]) (kidsT tn (l.take (k + 1)))) := by
                  have hgb : ∀ j, j < w.heap.size + 2 → w9.heap[j]? = w8.heap[j]? := fun j hj => by
                    rw [hg.block j (by simp; omega) (fun e => by have := (HOb.out j e.symm).1; omega), Below.heap_alloc _ _ _ (by omega)]
                  refine ⟨?_, HT8.out.x.keep (hgb _ (by omega)), HT8.out.r.keep (hgb _ (by omega)), ?_, ?_⟩
                  · have hs := HT8.out.bel.size
                    exact HT8.out.bel.trans (((Below.refl _ w8).alloc hs _).grown hg (by simp; omega) (fun j hj => by have := (HOb.out j hj).1; omega))
                  · rw [← ncs_snoc, List.length_append]; exact ho
                  · rw [HKs.out]
                    exact ncs_grow ((NcsIs.snoc HC.out HT8.out.kids).next (alloc_below _ _)) hg hv3 (by simp)
                clear ho hg hv3 HT8 HOw HOb HC HKs
                go_wp2
                go_roundw
                case rel => exact ⟨k + 1, _, by omega, by go_num, HN3⟩
                case measure => simp [intOf]; omega
      · have hki : ¬ (k : Int) < (N : Int) := by omega
        obtain ⟨lao, lcap, hv, hvc, hnd⟩ := own_nds (S := geB (w.heap.size + 2)) HT.out.own (HT.out.kids.keep fun j hj _ => ⟨rfl, hj.1⟩) (fun j hj _ => hj)
        rw [List.take_of_length_le (by rw [HN.out]; omega)] at hnd hv hvc
        obtain ⟨Z, hZ⟩ : ∃ Z, (kidsT tn l).length = Z := ⟨_, rfl⟩
        rw [hZ] at hv hvc
        injection hv with hv1 hv2 hv3
        subst hv1 hv2 hv3
        have HND : Hid (IsNds wr (geB (w.heap.size + 2)) vao (kidsT tn l)) := hnd
        clear hnd
        go_wp2_with fail
        refine (HLs.out _ _ _ _).mono ?_
        rintro e w5 ⟨rfl, hb5⟩
        have HT5 := HT.out.next hb5
        have r0 : w5.cell? ⟨w.heap.size + 1, 0, none⟩ = some (.int .i64 0) := HT5.r.cell 0
        have r1 : w5.cell? ⟨w.heap.size + 1, 1, none⟩ = some (.int .i64 0) := HT5.r.cell 1
        have r2 : w5.cell? ⟨w.heap.size + 1, 2, none⟩ = some (.int .i64 0) := HT5.r.cell 2
        have r3 : w5.cell? ⟨w.heap.size + 1, 3, none⟩ = some (.string ⟨#[]⟩) := HT5.r.cell 3
        have r4 : w5.cell? ⟨w.heap.size + 1, 4, none⟩ = some (.slice none 0 0) := HT5.r.cell 4
        have rf := HT5.r.froz
        have HNc : Hid (NcIs w5 (geB (w.heap.size + 2)) ⟨0, 0, 0, [], vao, vn, vcap⟩ x) := by
          rw [Hid, ← HX.out]
          exact ⟨rfl, rfl, rfl, rfl, hZ.symm, hvc, HND.out.next hb5⟩
        have HB5 : Hid (Below w.heap.size w w5) := HT5.bel
        clear hb5 HT5 HT HND hZ
        go_wp2
        exact bodyPost_ret (v := .agg #[.int .i64 (0), .int .i64 (0), .int .i64 (0), .string (⟨#[]⟩), .slice vao vn vcap]) (by simp [results, Tryz.results18, go_sem, r0, r1, r2, r3, r4]) rfl (mk_done HNc.out (by omega) (by omega) _ _ _ _ _ _ rfl HB5.out)
end Go.Proofs.YtlniifheapoppaaGreatDoor
/- The law's Of and To of a template. -/
namespace Go.Proofs.YtlniifheapoppaaGreatDoor
open Go.RowKit

structure OfW (T : Nat) (w wr : World) (tn : ByteArray) (ao : Option Addr) (M cap : Nat) (v : Value) (xs : List Sl) : Prop where
  bel : Below w.heap.size w wr
  x : Bx wr w.heap.size #[.string tn, .slice ao M cap]
  r : Bx wr (w.heap.size + 1) #[.string ⟨#[]⟩, .slice none 0 0]
  t : Bx wr (w.heap.size + 2) #[.string tn, v]
  own : wr.ownsRow (w.heap.size + 3) T 4 v xs.length (slsC xs)

set_option maxHeartbeats 16000000 in
set_option maxRecDepth 8000 in
theorem tof_any (T : Tp) (ao : Option Addr) (cap : Nat) (w : World) (hN : T.l.length ≤ 1000) (h : IsSls w ao T.l) :
    Calls Tryz.prog 13 #[tmV T ao cap] w fun e w' => (∃ ao' cap', e = .returned (tmV T ao' cap') ∧ T.l.length ≤ cap' ∧ IsSls w' ao' T.l) ∧ Below w.heap.size w w' := by
  obtain ⟨tn, l⟩ := T
  unfold tmV
  simp only at hN h ⊢
  obtain ⟨N, HN⟩ : ∃ N, Hid (l.length = N) := ⟨_, rfl⟩
  rw [HN.out]
  rw [HN.out] at hN
  have HI : Hid (IsSls w ao l) := h
  obtain ⟨W, HWe⟩ : ∃ W, Hid (((w.alloc (.cells #[.string tn, .slice ao N cap] 32)).alloc (.cells #[.string ⟨#[]⟩, .slice none 0 0] 45)).alloc (.cells #[.string tn, .slice none 0 0] 45) = W) := ⟨_, rfl⟩
  have HW : Hid (OfW 97 w W tn ao N cap (.slice none 0 0) (l.take 0)) := by
    refine ⟨?_, ?_, ?_, ?_, ?_⟩
    · rw [← HWe.out]; exact next_trans (next_trans (alloc_below _ _) (alloc_below _ _)) (alloc_below _ _)
    · rw [← HWe.out]; exact ((Bx.made _ _ _).alloc _).alloc _
    · rw [← HWe.out]; exact (Bx.made' rfl (by simp)).alloc _
    · exact Bx.made' HWe.out (by simp)
    · exact World.ownsRow_nil _ _ _ _
  clear h
  go_enter Tryz.func13, Tryz.ntmps13
  go_wp2
  rw [HWe.out]
  clear HWe
  go_loopw [4] (fun q wr => ∃ (k : Nat) (v : Value), k ≤ N ∧ q = .int .i64 k ∧ Hid (OfW 97 w wr tn ao N cap v (l.take k))) (fun q _ => N - (intOf q).toNat)
  case atStart => exact ⟨0, _, Nat.zero_le _, rfl, HW⟩
  case round =>
    obtain ⟨k, v, hk, rfl, HT⟩ := hrel
    clear HW
    have hlr : w.heap.size + 2 < wr.heap.size := HT.out.t.lt
    have x1 : wr.cell? ⟨w.heap.size, 1, none⟩ = some (.slice ao N cap) := HT.out.x.cell 1
    have hlk : (l.take k).length = k := by rw [List.length_take, HN.out]; omega
    obtain ⟨to, tc, hv, hsl2, hcap2⟩ := own_sls hlk (by have := HT.out.own; rw [hlk] at this; exact this)
    subst hv
    by_cases hlt : k < N
    · have hki : (k : Int) < (N : Int) := by omega
      have hk0 : (0 : Int) ≤ (k : Int) := by omega
      obtain ⟨s, hs⟩ : ∃ s, l[k]? = some s := ⟨_, List.getElem?_eq_getElem (by rw [HN.out]; exact hlt)⟩
      have HKs : Hid (slsC (l.take k) ++ sC s = slsC (l.take (k + 1))) := by
        obtain ⟨hk', e⟩ := List.getElem?_eq_some_iff.1 hs
        rw [Hid, slsC_snoc, List.take_succ_eq_append_getElem hk', e]
      have hob0 : ∀ b o, ao = some ⟨b, o, none⟩ → b < w.heap.size := fun b o e => by
        obtain ⟨b', o', e', c0', _⟩ := HI.out k _ hs
        rw [e] at e'
        have e1 := Option.some.inj e'
        injection e1 with e2
        subst e2
        exact World.block_lt_of_cell? w ⟨b, _, none⟩ c0'
      obtain ⟨b, o, rfl, c0, c1, c2, c3⟩ := (HI.out.next HT.out.bel) k s hs
      have hob : b < w.heap.size := hob0 b o rfl
      obtain ⟨sn, sk, si, ss⟩ := s
      simp only at c0 c1 c2 c3
      have HO : Hid (wr.ownsRow (w.heap.size + 3) 97 4 (.slice to k tc) k (slsC (l.take k))) := by have := HT.out.own; rw [hlk] at this; exact this
      have HOb : Hid (∀ j, (Value.slice to k tc).ownBlock = some j → w.heap.size + 3 ≤ j ∧ j < wr.heap.size) := fun j hj => HO.out.lt j hj
      have t1 : wr.cell? ⟨w.heap.size + 2, 1, none⟩ = some (.slice to k tc) := HT.out.t.cell 1
      obtain ⟨i0, hi, hz0, hz1, hz2⟩ := infoRSl'
      clear hs hsl2 hob0
      go_wp2
      refine wp_region_held_drew (S := (fun w' => w'.cell? ⟨w.heap.size, 1, none⟩ = some (.slice (some ⟨b, o, none⟩) N cap) ∧ w'.cell? ⟨b, o + k * 4, none⟩ = some (.string sn) ∧ w'.cell? ⟨b, o + k * 4 + 1, none⟩ = some (.int .i64 sk) ∧ w'.cell? ⟨b, o + k * 4 + 2, none⟩ = some (.int .i64 si) ∧ w'.cell? ⟨b, o + k * 4 + 3, none⟩ = some (.string ss))) (by kernel_rfl) ?_ (fun hH => ?_)
      · exact ⟨x1, c0, c1, c2, c3⟩
      refine wpAnyH_take (i := 0) (oi := { dst := some 15, op := Op.fieldAddr 45 (Operand.tmp 3) 1, type := 0, pos := "law.go:31", after := #[], guard := none }) (v := ?_) rfl (by kernel_rfl) (by kernel_rfl) (by kernel_rfl) (fun _ _ _ h => h) (Or.inl ⟨by rfl, ?hy0⟩) (by assumption) ?_
      case hy0 => (intro w hSw; (try dsimp only at hSw); go_simp; try with_reducible rfl)
      (try simp only [Act.put, List.setIfInBounds_toArray, List.set_cons_zero, List.set_cons_succ])
      refine wpAnyH_take (i := 2) (oi := { dst := some 17, op := Op.fieldAddr 32 (Operand.tmp 1) 1, type := 0, pos := "law.go:31", after := #[], guard := none }) (v := ?_) rfl (by kernel_rfl) (by kernel_rfl) (by kernel_rfl) (fun _ _ _ h => h) (Or.inl ⟨by rfl, ?hy2⟩) (by assumption) ?_
      case hy2 => (intro w hSw; (try dsimp only at hSw); go_simp; try with_reducible rfl)
      (try simp only [Act.put, List.setIfInBounds_toArray, List.set_cons_zero, List.set_cons_succ])
      refine wpAnyH_take (i := 3) (oi := { dst := some 18, op := Op.load 30 (Operand.tmp 17), type := 30, pos := "law.go:31", after := #[{ on := 2, ground := Ground.data }], guard := none }) (v := ?_) rfl (by kernel_rfl) (by kernel_rfl) (by kernel_rfl) (fun _ _ _ h => h) (Or.inl ⟨by rfl, ?hy3⟩) (by assumption) ?_
      case hy3 => (intro w hSw; (try dsimp only at hSw); go_simp; try with_reducible rfl)
      (try simp only [Act.put, List.setIfInBounds_toArray, List.set_cons_zero, List.set_cons_succ])
      refine wpAnyH_take (i := 4) (oi := { dst := some 19, op := Op.move (Operand.tmp 4), type := 3, pos := "law.go:31", after := #[], guard := none }) (v := ?_) rfl (by kernel_rfl) (by kernel_rfl) (by kernel_rfl) (fun _ _ _ h => h) (Or.inl ⟨by rfl, ?hy4⟩) (by assumption) ?_
      case hy4 => (intro w hSw; (try dsimp only at hSw); go_simp; try with_reducible rfl)
      (try simp only [Act.put, List.setIfInBounds_toArray, List.set_cons_zero, List.set_cons_succ])
      refine wpAnyH_take (i := 5) (oi := { dst := some 20, op := Op.indexAddr 30 (Operand.tmp 18) (Operand.tmp 19), type := 0, pos := "law.go:31", after := #[{ on := 3, ground := Ground.data }, { on := 4, ground := Ground.data }], guard := none }) (v := ?_) rfl (by kernel_rfl) (by kernel_rfl) (by kernel_rfl) (fun _ _ _ h => h) (Or.inl ⟨by rfl, ?hy5⟩) (by assumption) ?_
      case hy5 => (intro w hSw; (try dsimp only at hSw); go_simp; try with_reducible rfl)
      (try simp only [Act.put, List.setIfInBounds_toArray, List.set_cons_zero, List.set_cons_succ])
      refine wpAnyH_take (i := 6) (oi := { dst := some 21, op := Op.fieldAddr 91 (Operand.tmp 20) 0, type := 0, pos := "law.go:31", after := #[{ on := 5, ground := Ground.data }], guard := none }) (v := ?_) rfl (by kernel_rfl) (by kernel_rfl) (by kernel_rfl) (fun _ _ _ h => h) (Or.inl ⟨by rfl, ?hy6⟩) (by assumption) ?_
      case hy6 => (intro w hSw; (try dsimp only at hSw); go_simp; try with_reducible rfl)
      (try simp only [Act.put, List.setIfInBounds_toArray, List.set_cons_zero, List.set_cons_succ])
      refine wpAnyH_take (i := 7) (oi := { dst := some 22, op := Op.load 9 (Operand.tmp 21), type := 9, pos := "law.go:31", after := #[{ on := 6, ground := Ground.data }], guard := none }) (v := ?_) rfl (by kernel_rfl) (by kernel_rfl) (by kernel_rfl) (fun _ _ _ h => h) (Or.inl ⟨by rfl, ?hy7⟩) (by assumption) ?_
      case hy7 => (intro w hSw; (try dsimp only at hSw); go_simp; try with_reducible rfl)
      (try simp only [Act.put, List.setIfInBounds_toArray, List.set_cons_zero, List.set_cons_succ])
      refine wpAnyH_take (i := 8) (oi := { dst := some 23, op := Op.fieldAddr 32 (Operand.tmp 1) 1, type := 0, pos := "law.go:31", after := #[], guard := none }) (v := ?_) rfl (by kernel_rfl) (by kernel_rfl) (by kernel_rfl) (fun _ _ _ h => h) (Or.inl ⟨by rfl, ?hy8⟩) (by assumption) ?_
      case hy8 => (intro w hSw; (try dsimp only at hSw); go_simp; try with_reducible rfl)
      (try simp only [Act.put, List.setIfInBounds_toArray, List.set_cons_zero, List.set_cons_succ])
      refine wpAnyH_take (i := 9) (oi := { dst := some 24, op := Op.load 30 (Operand.tmp 23), type := 30, pos := "law.go:31", after := #[{ on := 8, ground := Ground.data }], guard := none }) (v := ?_) rfl (by kernel_rfl) (by kernel_rfl) (by kernel_rfl) (fun _ _ _ h => h) (Or.inl ⟨by rfl, ?hy9⟩) (by assumption) ?_
      case hy9 => (intro w hSw; (try dsimp only at hSw); go_simp; try with_reducible rfl)
      (try simp only [Act.put, List.setIfInBounds_toArray, List.set_cons_zero, List.set_cons_succ])
      refine wpAnyH_take (i := 10) (oi := { dst := some 25, op := Op.move (Operand.tmp 4), type := 3, pos := "law.go:31", after := #[], guard := none }) (v := ?_) rfl (by kernel_rfl) (by kernel_rfl) (by kernel_rfl) (fun _ _ _ h => h) (Or.inl ⟨by rfl, ?hy10⟩) (by assumption) ?_
      case hy10 => (intro w hSw; (try dsimp only at hSw); go_simp; try with_reducible rfl)
      (try simp only [Act.put, List.setIfInBounds_toArray, List.set_cons_zero, List.set_cons_succ])
      refine wpAnyH_take (i := 11) (oi := { dst := some 26, op := Op.indexAddr 30 (Operand.tmp 24) (Operand.tmp 25), type := 0, pos := "law.go:31", after := #[{ on := 9, ground := Ground.data }, { on := 10, ground := Ground.data }], guard := none }) (v := ?_) rfl (by kernel_rfl) (by kernel_rfl) (by kernel_rfl) (fun _ _ _ h => h) (Or.inl ⟨by rfl, ?hy11⟩) (by assumption) ?_
      case hy11 => (intro w hSw; (try dsimp only at hSw); go_simp; try with_reducible rfl)
      (try simp only [Act.put, List.setIfInBounds_toArray, List.set_cons_zero, List.set_cons_succ])
      refine wpAnyH_take (i := 12) (oi := { dst := some 27, op := Op.fieldAddr 91 (Operand.tmp 26) 1, type := 0, pos := "law.go:31", after := #[{ on := 11, ground := Ground.data }], guard := none }) (v := ?_) rfl (by kernel_rfl) (by kernel_rfl) (by kernel_rfl) (fun _ _ _ h => h) (Or.inl ⟨by rfl, ?hy12⟩) (by assumption) ?_
      case hy12 => (intro w hSw; (try dsimp only at hSw); go_simp; try with_reducible rfl)
      (try simp only [Act.put, List.setIfInBounds_toArray, List.set_cons_zero, List.set_cons_succ])
      refine wpAnyH_take (i := 13) (oi := { dst := some 28, op := Op.load 61 (Operand.tmp 27), type := 61, pos := "law.go:31", after := #[{ on := 12, ground := Ground.data }], guard := none }) (v := ?_) rfl (by kernel_rfl) (by kernel_rfl) (by kernel_rfl) (fun _ _ _ h => h) (Or.inl ⟨by rfl, ?hy13⟩) (by assumption) ?_
      case hy13 => (intro w hSw; (try dsimp only at hSw); go_simp; try with_reducible rfl)
      (try simp only [Act.put, List.setIfInBounds_toArray, List.set_cons_zero, List.set_cons_succ])
      refine wpAnyH_take (i := 14) (oi := { dst := some 29, op := Op.build 97 #[(0, Operand.tmp 22), (1, Operand.tmp 28)], type := 97, pos := "law.go:31", after := #[{ on := 7, ground := Ground.data }, { on := 13, ground := Ground.data }], guard := none }) (v := ?_) rfl (by kernel_rfl) (by kernel_rfl) (by kernel_rfl) (fun _ _ _ h => h) (Or.inl ⟨by rfl, ?hy14⟩) (by assumption) ?_
      case hy14 => (intro w hSw; (try dsimp only at hSw); go_simp; try with_reducible rfl)
      (try simp only [Act.put, List.setIfInBounds_toArray, List.set_cons_zero, List.set_cons_succ])
      refine wpAnyH_ready (rs := [1, 15]) (by kernel_rfl) (by simp) ?_
      refine (AllReadyH.cons (o := { dst := some 16, op := Op.load 43 (Operand.tmp 15), type := 43, pos := "law.go:31", after := #[{ on := 0, ground := Ground.data }], guard := none }) rfl (fun K hK => ?_) (AllReadyH.cons (o := { dst := some 30, op := Op.buildSlice 43 1 #[(0, Operand.tmp 29)], type := 43, pos := "law.go:31", after := #[{ on := 14, ground := Ground.data }], guard := none }) rfl (fun K hK => ?_) AllReadyH.nil))
      · skip
        go_simp
        refine hK.out _ _ ?_ (fun hI => ?_)
        · exact hH
        clear hK K
        (try simp only [Act.put, List.setIfInBounds_toArray, List.set_cons_zero, List.set_cons_succ])
        refine wpAnyH_ready (rs := [15]) (by kernel_rfl) (by simp) ?_
        refine (AllReadyH.cons (o := { dst := some 30, op := Op.buildSlice 43 1 #[(0, Operand.tmp 29)], type := 43, pos := "law.go:31", after := #[{ on := 14, ground := Ground.data }], guard := none }) rfl (fun K hK => ?_) AllReadyH.nil)
        go_simp
        refine hK.out _ _ ?_ (fun hJ => ?_)
        · exact ⟨alloc_cell hI.1, alloc_cell hI.2.1, alloc_cell hI.2.2.1, alloc_cell hI.2.2.2.1, alloc_cell hI.2.2.2.2⟩
        clear hK K
        (try simp only [Act.put, List.setIfInBounds_toArray, List.set_cons_zero, List.set_cons_succ])
        refine wpAnyH_ready (rs := [16]) (by kernel_rfl) (by simp) ?_
        refine (AllReadyH.cons (o := { dst := some 31, op := Op.call { callee := Callee.builtin Builtin.append, args := #[Operand.tmp 16, Operand.tmp 30], argTypes := #[43, 43] }, type := 43, pos := "law.go:31", after := #[{ on := 1, ground := Ground.data }, { on := 15, ground := Ground.data }], guard := none }) rfl (fun K hK => ?_) AllReadyH.nil)
        refine step_append_lies _ (by rfl) _ _ _ (by rfl) (w.heap.size + 3) 97 i0 zeroSl 4 48 Tryz.underlying43 hi hz0 hz1 hz2 rfl (by decide) (.slice to k tc) k (slsC (l.take k)) (by rfl) ((HO.out.drew).alloc _) ⟨wr.heap.size, 0, none⟩ 1 1 [.string sn, .int .i64 sk, .int .i64 si, .string ss] (by rfl) (by rfl) (World.news_of_block (cs := #[.string sn, .int .i64 sk, .int .i64 si, .string ss]) (t := 97) (fr := (0, 0)) (heap_alloc_new wr.drew _)) (by simp [Value.oneCell']) (by decide) (by unfold maxLen; omega) (by omega) (by simp; omega) (wr.heap.size + 1) (by simp) ?_
        intro gk gcap w3 hown hgrow hat3 hlt3
        have q0 := hgrow.cell (alloc_cell (w := wr.drew) x1) (fun e => by have h9 := (HOb.out _ e.symm).1; simp only at h9; omega)
        have q1 := hgrow.cell (alloc_cell (w := wr.drew) c0) (fun e => by have h9 := (HOb.out _ e.symm).1; simp only at h9; omega)
        have q2 := hgrow.cell (alloc_cell (w := wr.drew) c1) (fun e => by have h9 := (HOb.out _ e.symm).1; simp only at h9; omega)
        have q3 := hgrow.cell (alloc_cell (w := wr.drew) c2) (fun e => by have h9 := (HOb.out _ e.symm).1; simp only at h9; omega)
        have q4 := hgrow.cell (alloc_cell (w := wr.drew) c3) (fun e => by have h9 := (HOb.out _ e.symm).1; simp only at h9; omega)
        have hgb : ∀ j, j < w.heap.size + 3 → w3.heap[j]? = wr.heap[j]? := fun j hj => (hgrow.block j (by simp; omega) (fun e => by have := (HOb.out j e.symm).1; omega)).trans (Below.heap_alloc _ _ _ (by show j < wr.heap.size; omega))
        have t3 : w3.cell? ⟨w.heap.size + 2, 1, none⟩ = some (.slice to k tc) := (HT.out.t.keep (hgb _ (by omega))).cell 1
        have tf := (HT.out.t.keep (hgb _ (by omega))).froz
        refine hK.out _ _ ?_ (fun hL => ?_)
        · exact ⟨q0, q1, q2, q3, q4⟩
        clear hK K
        (try simp only [Act.put, List.setIfInBounds_toArray, List.set_cons_zero, List.set_cons_succ])
        refine wpAnyH_take (i := 17) (oi := { dst := some 32, op := Op.fieldAddr 45 (Operand.tmp 3) 1, type := 0, pos := "law.go:31", after := #[{ on := 0, ground := Ground.phase }, { on := 1, ground := Ground.phase }, { on := 2, ground := Ground.phase }, { on := 3, ground := Ground.phase }, { on := 4, ground := Ground.phase }, { on := 5, ground := Ground.phase }, { on := 6, ground := Ground.phase }, { on := 7, ground := Ground.phase }, { on := 8, ground := Ground.phase }, { on := 9, ground := Ground.phase }, { on := 10, ground := Ground.phase }, { on := 11, ground := Ground.phase }, { on := 12, ground := Ground.phase }, { on := 13, ground := Ground.phase }, { on := 14, ground := Ground.phase }, { on := 15, ground := Ground.phase }, { on := 16, ground := Ground.phase }], guard := none }) (v := ?_) rfl (by kernel_rfl) (by kernel_rfl) (by kernel_rfl) (fun _ _ _ h => h) (Or.inl ⟨by rfl, ?hy17⟩) (by assumption) ?_
        case hy17 => (intro w hSw; (try dsimp only at hSw); go_simp; try with_reducible rfl)
        (try simp only [Act.put, List.setIfInBounds_toArray, List.set_cons_zero, List.set_cons_succ])
        refine wpAnyH_ready (rs := [18]) (by kernel_rfl) (by simp) ?_
        refine (AllReadyH.cons (o := { dst := none, op := Op.store 43 (Operand.tmp 32) (Operand.tmp 31), type := 0, pos := "law.go:31", after := #[{ on := 17, ground := Ground.data }, { on := 16, ground := Ground.data }, { on := 16, ground := Ground.chain }, { on := 0, ground := Ground.phase }, { on := 1, ground := Ground.phase }, { on := 2, ground := Ground.phase }, { on := 3, ground := Ground.phase }, { on := 4, ground := Ground.phase }, { on := 5, ground := Ground.phase }, { on := 6, ground := Ground.phase }, { on := 7, ground := Ground.phase }, { on := 8, ground := Ground.phase }, { on := 9, ground := Ground.phase }, { on := 10, ground := Ground.phase }, { on := 11, ground := Ground.phase }, { on := 12, ground := Ground.phase }, { on := 13, ground := Ground.phase }, { on := 14, ground := Ground.phase }, { on := 15, ground := Ground.phase }, { on := 16, ground := Ground.phase }], guard := none }) rfl (fun K hK => ?_) AllReadyH.nil)
        go_simp
        refine hK.out _ _ ?_ (fun hM => ?_)
        · exact ⟨(World.cell?_setCell_far _ _ _ _ (by show _ ≠ _; simp only; omega)).trans hL.1, (World.cell?_setCell_far _ _ _ _ (by show _ ≠ _; simp only; omega)).trans hL.2.1, (World.cell?_setCell_far _ _ _ _ (by show _ ≠ _; simp only; omega)).trans hL.2.2.1, (World.cell?_setCell_far _ _ _ _ (by show _ ≠ _; simp only; omega)).trans hL.2.2.2.1, (World.cell?_setCell_far _ _ _ _ (by show _ ≠ _; simp only; omega)).trans hL.2.2.2.2⟩
        clear hK K
        (try simp only [Act.put, List.setIfInBounds_toArray, List.set_cons_zero, List.set_cons_succ])
        refine wpAnyH_done (by kernel_rfl) ?_ _
        have hO3 : w3.ownsRow (w.heap.size + 3) 97 4 (.slice (some ⟨gk, 0, none⟩) (k + 1) gcap) (k + 1) (slsC (l.take (k + 1))) := by rw [← HKs.out]; exact hown
        have hB3 : Below w.heap.size w w3 := by
          have hs := HT.out.bel.size
          refine HT.out.bel.trans (((below_drawn (Below.refl _ wr) 1).alloc hs _).grown hgrow (by simp; omega) (fun j hj => ?_))
          have := (HOb.out j hj).1
          omega
        have HN3 : Hid (OfW 97 w (w3.setCell ⟨w.heap.size + 2, 1, none⟩ (.slice (some ⟨gk, 0, none⟩) (k + 1) gcap)) tn (some ⟨b, o, none⟩) N cap (.slice (some ⟨gk, 0, none⟩) (k + 1) gcap) (l.take (k + 1))) := by
          have hlk2 : (l.take (k + 1)).length = k + 1 := by rw [List.length_take, HN.out]; omega
          refine ⟨set_bel hB3 (by omega), (HT.out.x.keep (hgb _ (by omega))).off (by omega) _ _, (HT.out.r.keep (hgb _ (by omega))).off (by omega) _ _, (HT.out.t.keep (hgb _ (by omega))).set 1 _, ?_⟩
          rw [hlk2]
          exact ownsRow_setCell_below hO3 (by show w.heap.size + 2 < w.heap.size + 3; omega) _
        clear hown hgrow hat3 hlt3 q0 q1 q2 q3 q4 hgb t3 tf hH hI hJ hL hM hO3 hB3 HT HO HOb x1 t1 c0 c1 c2 c3
        go_wp2
        go_roundw
        case rel => exact ⟨k + 1, _, by omega, by go_num, HN3⟩
        case measure => simp [intOf]; omega
      · skip
        go_simp
        refine hK.out _ _ ?_ (fun hI => ?_)
        · exact ⟨alloc_cell hH.1, alloc_cell hH.2.1, alloc_cell hH.2.2.1, alloc_cell hH.2.2.2.1, alloc_cell hH.2.2.2.2⟩
        clear hK K
        (try simp only [Act.put, List.setIfInBounds_toArray, List.set_cons_zero, List.set_cons_succ])
        refine wpAnyH_ready (rs := [1]) (by kernel_rfl) (by simp) ?_
        refine (AllReadyH.cons (o := { dst := some 16, op := Op.load 43 (Operand.tmp 15), type := 43, pos := "law.go:31", after := #[{ on := 0, ground := Ground.data }], guard := none }) rfl (fun K hK => ?_) AllReadyH.nil)
        go_simp
        refine hK.out _ _ ?_ (fun hJ => ?_)
        · exact hI
        clear hK K
        (try simp only [Act.put, List.setIfInBounds_toArray, List.set_cons_zero, List.set_cons_succ])
        refine wpAnyH_ready (rs := [16]) (by kernel_rfl) (by simp) ?_
        refine (AllReadyH.cons (o := { dst := some 31, op := Op.call { callee := Callee.builtin Builtin.append, args := #[Operand.tmp 16, Operand.tmp 30], argTypes := #[43, 43] }, type := 43, pos := "law.go:31", after := #[{ on := 1, ground := Ground.data }, { on := 15, ground := Ground.data }], guard := none }) rfl (fun K hK => ?_) AllReadyH.nil)
        refine step_append_lies _ (by rfl) _ _ _ (by rfl) (w.heap.size + 3) 97 i0 zeroSl 4 48 Tryz.underlying43 hi hz0 hz1 hz2 rfl (by decide) (.slice to k tc) k (slsC (l.take k)) (by rfl) ((HO.out.drew).alloc _) ⟨wr.heap.size, 0, none⟩ 1 1 [.string sn, .int .i64 sk, .int .i64 si, .string ss] (by rfl) (by rfl) (World.news_of_block (cs := #[.string sn, .int .i64 sk, .int .i64 si, .string ss]) (t := 97) (fr := (0, 0)) (heap_alloc_new wr.drew _)) (by simp [Value.oneCell']) (by decide) (by unfold maxLen; omega) (by omega) (by simp; omega) (wr.heap.size + 1) (by simp) ?_
        intro gk gcap w3 hown hgrow hat3 hlt3
        have q0 := hgrow.cell (alloc_cell (w := wr.drew) x1) (fun e => by have h9 := (HOb.out _ e.symm).1; simp only at h9; omega)
        have q1 := hgrow.cell (alloc_cell (w := wr.drew) c0) (fun e => by have h9 := (HOb.out _ e.symm).1; simp only at h9; omega)
        have q2 := hgrow.cell (alloc_cell (w := wr.drew) c1) (fun e => by have h9 := (HOb.out _ e.symm).1; simp only at h9; omega)
        have q3 := hgrow.cell (alloc_cell (w := wr.drew) c2) (fun e => by have h9 := (HOb.out _ e.symm).1; simp only at h9; omega)
        have q4 := hgrow.cell (alloc_cell (w := wr.drew) c3) (fun e => by have h9 := (HOb.out _ e.symm).1; simp only at h9; omega)
        have hgb : ∀ j, j < w.heap.size + 3 → w3.heap[j]? = wr.heap[j]? := fun j hj => (hgrow.block j (by simp; omega) (fun e => by have := (HOb.out j e.symm).1; omega)).trans (Below.heap_alloc _ _ _ (by show j < wr.heap.size; omega))
        have t3 : w3.cell? ⟨w.heap.size + 2, 1, none⟩ = some (.slice to k tc) := (HT.out.t.keep (hgb _ (by omega))).cell 1
        have tf := (HT.out.t.keep (hgb _ (by omega))).froz
        refine hK.out _ _ ?_ (fun hL => ?_)
        · exact ⟨q0, q1, q2, q3, q4⟩
        clear hK K
        (try simp only [Act.put, List.setIfInBounds_toArray, List.set_cons_zero, List.set_cons_succ])
        refine wpAnyH_take (i := 17) (oi := { dst := some 32, op := Op.fieldAddr 45 (Operand.tmp 3) 1, type := 0, pos := "law.go:31", after := #[{ on := 0, ground := Ground.phase }, { on := 1, ground := Ground.phase }, { on := 2, ground := Ground.phase }, { on := 3, ground := Ground.phase }, { on := 4, ground := Ground.phase }, { on := 5, ground := Ground.phase }, { on := 6, ground := Ground.phase }, { on := 7, ground := Ground.phase }, { on := 8, ground := Ground.phase }, { on := 9, ground := Ground.phase }, { on := 10, ground := Ground.phase }, { on := 11, ground := Ground.phase }, { on := 12, ground := Ground.phase }, { on := 13, ground := Ground.phase }, { on := 14, ground := Ground.phase }, { on := 15, ground := Ground.phase }, { on := 16, ground := Ground.phase }], guard := none }) (v := ?_) rfl (by kernel_rfl) (by kernel_rfl) (by kernel_rfl) (fun _ _ _ h => h) (Or.inl ⟨by rfl, ?hy17⟩) (by assumption) ?_
        case hy17 => (intro w hSw; (try dsimp only at hSw); go_simp; try with_reducible rfl)
        (try simp only [Act.put, List.setIfInBounds_toArray, List.set_cons_zero, List.set_cons_succ])
        refine wpAnyH_ready (rs := [18]) (by kernel_rfl) (by simp) ?_
        refine (AllReadyH.cons (o := { dst := none, op := Op.store 43 (Operand.tmp 32) (Operand.tmp 31), type := 0, pos := "law.go:31", after := #[{ on := 17, ground := Ground.data }, { on := 16, ground := Ground.data }, { on := 16, ground := Ground.chain }, { on := 0, ground := Ground.phase }, { on := 1, ground := Ground.phase }, { on := 2, ground := Ground.phase }, { on := 3, ground := Ground.phase }, { on := 4, ground := Ground.phase }, { on := 5, ground := Ground.phase }, { on := 6, ground := Ground.phase }, { on := 7, ground := Ground.phase }, { on := 8, ground := Ground.phase }, { on := 9, ground := Ground.phase }, { on := 10, ground := Ground.phase }, { on := 11, ground := Ground.phase }, { on := 12, ground := Ground.phase }, { on := 13, ground := Ground.phase }, { on := 14, ground := Ground.phase }, { on := 15, ground := Ground.phase }, { on := 16, ground := Ground.phase }], guard := none }) rfl (fun K hK => ?_) AllReadyH.nil)
        go_simp
        refine hK.out _ _ ?_ (fun hM => ?_)
        · exact ⟨(World.cell?_setCell_far _ _ _ _ (by show _ ≠ _; simp only; omega)).trans hL.1, (World.cell?_setCell_far _ _ _ _ (by show _ ≠ _; simp only; omega)).trans hL.2.1, (World.cell?_setCell_far _ _ _ _ (by show _ ≠ _; simp only; omega)).trans hL.2.2.1, (World.cell?_setCell_far _ _ _ _ (by show _ ≠ _; simp only; omega)).trans hL.2.2.2.1, (World.cell?_setCell_far _ _ _ _ (by show _ ≠ _; simp only; omega)).trans hL.2.2.2.2⟩
        clear hK K
        (try simp only [Act.put, List.setIfInBounds_toArray, List.set_cons_zero, List.set_cons_succ])
        refine wpAnyH_done (by kernel_rfl) ?_ _
        have hO3 : w3.ownsRow (w.heap.size + 3) 97 4 (.slice (some ⟨gk, 0, none⟩) (k + 1) gcap) (k + 1) (slsC (l.take (k + 1))) := by rw [← HKs.out]; exact hown
        have hB3 : Below w.heap.size w w3 := by
          have hs := HT.out.bel.size
          refine HT.out.bel.trans (((below_drawn (Below.refl _ wr) 1).alloc hs _).grown hgrow (by simp; omega) (fun j hj => ?_))
          have := (HOb.out j hj).1
          omega
        have HN3 : Hid (OfW 97 w (w3.setCell ⟨w.heap.size + 2, 1, none⟩ (.slice (some ⟨gk, 0, none⟩) (k + 1) gcap)) tn (some ⟨b, o, none⟩) N cap (.slice (some ⟨gk, 0, none⟩) (k + 1) gcap) (l.take (k + 1))) := by
          have hlk2 : (l.take (k + 1)).length = k + 1 := by rw [List.length_take, HN.out]; omega
          refine ⟨set_bel hB3 (by omega), (HT.out.x.keep (hgb _ (by omega))).off (by omega) _ _, (HT.out.r.keep (hgb _ (by omega))).off (by omega) _ _, (HT.out.t.keep (hgb _ (by omega))).set 1 _, ?_⟩
          rw [hlk2]
          exact ownsRow_setCell_below hO3 (by show w.heap.size + 2 < w.heap.size + 3; omega) _
        clear hown hgrow hat3 hlt3 q0 q1 q2 q3 q4 hgb t3 tf hH hI hJ hL hM hO3 hB3 HT HO HOb x1 t1 c0 c1 c2 c3
        go_wp2
        go_roundw
        case rel => exact ⟨k + 1, _, by omega, by go_num, HN3⟩
        case measure => simp [intOf]; omega
    · have hki : ¬ (k : Int) < (N : Int) := by omega
      obtain rfl : k = N := by omega
      rw [List.take_of_length_le (by rw [HN.out]; exact Nat.le_refl _)] at hsl2
      have r0 : wr.cell? ⟨w.heap.size + 1, 0, none⟩ = some (.string ⟨#[]⟩) := HT.out.r.cell 0
      have r1 : wr.cell? ⟨w.heap.size + 1, 1, none⟩ = some (.slice none 0 0) := HT.out.r.cell 1
      have rf := HT.out.r.froz
      have t0 : wr.cell? ⟨w.heap.size + 2, 0, none⟩ = some (.string tn) := HT.out.t.cell 0
      have t1 : wr.cell? ⟨w.heap.size + 2, 1, none⟩ = some (.slice to k tc) := HT.out.t.cell 1
      have hne : ∀ b o, to = some ⟨b, o, none⟩ → b ≠ w.heap.size + 1 := fun b o e h => by
        subst e
        have := (HT.out.own.lt b rfl).1
        omega
      have HSe : Hid (IsSls ((wr.setCell ⟨w.heap.size + 1, 0, none⟩ (.string tn)).setCell ⟨w.heap.size + 1, 1, none⟩ (.slice to k tc)) to l) := (hsl2.set hne).set hne
      have HBe : Hid (Below w.heap.size w ((wr.setCell ⟨w.heap.size + 1, 0, none⟩ (.string tn)).setCell ⟨w.heap.size + 1, 1, none⟩ (.slice to k tc))) := set_bel (set_bel HT.out.bel (by omega)) (by omega)
      have hc9 : k ≤ tc := hcap2
      clear hsl2 HT hne
      go_wp2
      exact bodyPost_ret (v := .agg #[.string tn, .slice to k tc]) (by simp [results, Tryz.results13, go_sem, r0, r1]) rfl ⟨⟨to, tc, rfl, hc9, HSe.out⟩, HBe.out⟩

set_option maxHeartbeats 16000000 in
set_option maxRecDepth 8000 in
theorem tto_any (T : Tp) (ao : Option Addr) (cap : Nat) (w : World) (hN : T.l.length ≤ 1000) (h : IsSls w ao T.l) :
    Calls Tryz.prog 20 #[tmV T ao cap] w fun e w' => (∃ ao' cap', e = .returned (tmV T ao' cap') ∧ T.l.length ≤ cap' ∧ IsSls w' ao' T.l) ∧ Below w.heap.size w w' := by
  obtain ⟨tn, l⟩ := T
  unfold tmV
  simp only at hN h ⊢
  obtain ⟨N, HN⟩ : ∃ N, Hid (l.length = N) := ⟨_, rfl⟩
  rw [HN.out]
  rw [HN.out] at hN
  have HI : Hid (IsSls w ao l) := h
  obtain ⟨W, HWe⟩ : ∃ W, Hid (((w.alloc (.cells #[.string tn, .slice ao N cap] 45)).alloc (.cells #[.string ⟨#[]⟩, .slice none 0 0] 32)).alloc (.cells #[.string tn, .slice none 0 0] 32) = W) := ⟨_, rfl⟩
  have HW : Hid (OfW 91 w W tn ao N cap (.slice none 0 0) (l.take 0)) := by
    refine ⟨?_, ?_, ?_, ?_, ?_⟩
    · rw [← HWe.out]; exact next_trans (next_trans (alloc_below _ _) (alloc_below _ _)) (alloc_below _ _)
    · rw [← HWe.out]; exact ((Bx.made _ _ _).alloc _).alloc _
    · rw [← HWe.out]; exact (Bx.made' rfl (by simp)).alloc _
    · exact Bx.made' HWe.out (by simp)
    · exact World.ownsRow_nil _ _ _ _
  clear h
  go_enter Tryz.func20, Tryz.ntmps20
  go_wp2
  rw [HWe.out]
  clear HWe
  go_loopw [4] (fun q wr => ∃ (k : Nat) (v : Value), k ≤ N ∧ q = .int .i64 k ∧ Hid (OfW 91 w wr tn ao N cap v (l.take k))) (fun q _ => N - (intOf q).toNat)
  case atStart => exact ⟨0, _, Nat.zero_le _, rfl, HW⟩
  case round =>
    obtain ⟨k, v, hk, rfl, HT⟩ := hrel
    clear HW
    have hlr : w.heap.size + 2 < wr.heap.size := HT.out.t.lt
    have x1 : wr.cell? ⟨w.heap.size, 1, none⟩ = some (.slice ao N cap) := HT.out.x.cell 1
    have hlk : (l.take k).length = k := by rw [List.length_take, HN.out]; omega
    obtain ⟨to, tc, hv, hsl2, hcap2⟩ := own_sls hlk (by have := HT.out.own; rw [hlk] at this; exact this)
    subst hv
    by_cases hlt : k < N
    · have hki : (k : Int) < (N : Int) := by omega
      have hk0 : (0 : Int) ≤ (k : Int) := by omega
      obtain ⟨s, hs⟩ : ∃ s, l[k]? = some s := ⟨_, List.getElem?_eq_getElem (by rw [HN.out]; exact hlt)⟩
      have HKs : Hid (slsC (l.take k) ++ sC s = slsC (l.take (k + 1))) := by
        obtain ⟨hk', e⟩ := List.getElem?_eq_some_iff.1 hs
        rw [Hid, slsC_snoc, List.take_succ_eq_append_getElem hk', e]
      have hob0 : ∀ b o, ao = some ⟨b, o, none⟩ → b < w.heap.size := fun b o e => by
        obtain ⟨b', o', e', c0', _⟩ := HI.out k _ hs
        rw [e] at e'
        have e1 := Option.some.inj e'
        injection e1 with e2
        subst e2
        exact World.block_lt_of_cell? w ⟨b, _, none⟩ c0'
      obtain ⟨b, o, rfl, c0, c1, c2, c3⟩ := (HI.out.next HT.out.bel) k s hs
      have hob : b < w.heap.size := hob0 b o rfl
      obtain ⟨sn, sk, si, ss⟩ := s
      simp only at c0 c1 c2 c3
      have HO : Hid (wr.ownsRow (w.heap.size + 3) 91 4 (.slice to k tc) k (slsC (l.take k))) := by have := HT.out.own; rw [hlk] at this; exact this
      have HOb : Hid (∀ j, (Value.slice to k tc).ownBlock = some j → w.heap.size + 3 ≤ j ∧ j < wr.heap.size) := fun j hj => HO.out.lt j hj
      have t1 : wr.cell? ⟨w.heap.size + 2, 1, none⟩ = some (.slice to k tc) := HT.out.t.cell 1
      obtain ⟨i0, hi, hz0, hz1, hz2⟩ := infoSl'
      clear hs hsl2 hob0
      go_wp2
      refine wp_region_held_drew (S := (fun w' => w'.cell? ⟨w.heap.size, 1, none⟩ = some (.slice (some ⟨b, o, none⟩) N cap) ∧ w'.cell? ⟨b, o + k * 4, none⟩ = some (.string sn) ∧ w'.cell? ⟨b, o + k * 4 + 1, none⟩ = some (.int .i64 sk) ∧ w'.cell? ⟨b, o + k * 4 + 2, none⟩ = some (.int .i64 si) ∧ w'.cell? ⟨b, o + k * 4 + 3, none⟩ = some (.string ss))) (by kernel_rfl) ?_ (fun hH => ?_)
      · exact ⟨x1, c0, c1, c2, c3⟩
      refine wpAnyH_take (i := 0) (oi := { dst := some 15, op := Op.fieldAddr 32 (Operand.tmp 3) 1, type := 0, pos := "law.go:39", after := #[], guard := none }) (v := ?_) rfl (by kernel_rfl) (by kernel_rfl) (by kernel_rfl) (fun _ _ _ h => h) (Or.inl ⟨by rfl, ?hy0⟩) (by assumption) ?_
      case hy0 => (intro w hSw; (try dsimp only at hSw); go_simp; try with_reducible rfl)
      (try simp only [Act.put, List.setIfInBounds_toArray, List.set_cons_zero, List.set_cons_succ])
      refine wpAnyH_take (i := 2) (oi := { dst := some 17, op := Op.fieldAddr 45 (Operand.tmp 1) 1, type := 0, pos := "law.go:39", after := #[], guard := none }) (v := ?_) rfl (by kernel_rfl) (by kernel_rfl) (by kernel_rfl) (fun _ _ _ h => h) (Or.inl ⟨by rfl, ?hy2⟩) (by assumption) ?_
      case hy2 => (intro w hSw; (try dsimp only at hSw); go_simp; try with_reducible rfl)
      (try simp only [Act.put, List.setIfInBounds_toArray, List.set_cons_zero, List.set_cons_succ])
      refine wpAnyH_take (i := 3) (oi := { dst := some 18, op := Op.load 43 (Operand.tmp 17), type := 43, pos := "law.go:39", after := #[{ on := 2, ground := Ground.data }], guard := none }) (v := ?_) rfl (by kernel_rfl) (by kernel_rfl) (by kernel_rfl) (fun _ _ _ h => h) (Or.inl ⟨by rfl, ?hy3⟩) (by assumption) ?_
      case hy3 => (intro w hSw; (try dsimp only at hSw); go_simp; try with_reducible rfl)
      (try simp only [Act.put, List.setIfInBounds_toArray, List.set_cons_zero, List.set_cons_succ])
      refine wpAnyH_take (i := 4) (oi := { dst := some 19, op := Op.move (Operand.tmp 4), type := 3, pos := "law.go:39", after := #[], guard := none }) (v := ?_) rfl (by kernel_rfl) (by kernel_rfl) (by kernel_rfl) (fun _ _ _ h => h) (Or.inl ⟨by rfl, ?hy4⟩) (by assumption) ?_
      case hy4 => (intro w hSw; (try dsimp only at hSw); go_simp; try with_reducible rfl)
      (try simp only [Act.put, List.setIfInBounds_toArray, List.set_cons_zero, List.set_cons_succ])
      refine wpAnyH_take (i := 5) (oi := { dst := some 20, op := Op.indexAddr 43 (Operand.tmp 18) (Operand.tmp 19), type := 0, pos := "law.go:39", after := #[{ on := 3, ground := Ground.data }, { on := 4, ground := Ground.data }], guard := none }) (v := ?_) rfl (by kernel_rfl) (by kernel_rfl) (by kernel_rfl) (fun _ _ _ h => h) (Or.inl ⟨by rfl, ?hy5⟩) (by assumption) ?_
      case hy5 => (intro w hSw; (try dsimp only at hSw); go_simp; try with_reducible rfl)
      (try simp only [Act.put, List.setIfInBounds_toArray, List.set_cons_zero, List.set_cons_succ])
      refine wpAnyH_take (i := 6) (oi := { dst := some 21, op := Op.fieldAddr 97 (Operand.tmp 20) 0, type := 0, pos := "law.go:39", after := #[{ on := 5, ground := Ground.data }], guard := none }) (v := ?_) rfl (by kernel_rfl) (by kernel_rfl) (by kernel_rfl) (fun _ _ _ h => h) (Or.inl ⟨by rfl, ?hy6⟩) (by assumption) ?_
      case hy6 => (intro w hSw; (try dsimp only at hSw); go_simp; try with_reducible rfl)
      (try simp only [Act.put, List.setIfInBounds_toArray, List.set_cons_zero, List.set_cons_succ])
      refine wpAnyH_take (i := 7) (oi := { dst := some 22, op := Op.load 9 (Operand.tmp 21), type := 9, pos := "law.go:39", after := #[{ on := 6, ground := Ground.data }], guard := none }) (v := ?_) rfl (by kernel_rfl) (by kernel_rfl) (by kernel_rfl) (fun _ _ _ h => h) (Or.inl ⟨by rfl, ?hy7⟩) (by assumption) ?_
      case hy7 => (intro w hSw; (try dsimp only at hSw); go_simp; try with_reducible rfl)
      (try simp only [Act.put, List.setIfInBounds_toArray, List.set_cons_zero, List.set_cons_succ])
      refine wpAnyH_take (i := 8) (oi := { dst := some 23, op := Op.fieldAddr 45 (Operand.tmp 1) 1, type := 0, pos := "law.go:39", after := #[], guard := none }) (v := ?_) rfl (by kernel_rfl) (by kernel_rfl) (by kernel_rfl) (fun _ _ _ h => h) (Or.inl ⟨by rfl, ?hy8⟩) (by assumption) ?_
      case hy8 => (intro w hSw; (try dsimp only at hSw); go_simp; try with_reducible rfl)
      (try simp only [Act.put, List.setIfInBounds_toArray, List.set_cons_zero, List.set_cons_succ])
      refine wpAnyH_take (i := 9) (oi := { dst := some 24, op := Op.load 43 (Operand.tmp 23), type := 43, pos := "law.go:39", after := #[{ on := 8, ground := Ground.data }], guard := none }) (v := ?_) rfl (by kernel_rfl) (by kernel_rfl) (by kernel_rfl) (fun _ _ _ h => h) (Or.inl ⟨by rfl, ?hy9⟩) (by assumption) ?_
      case hy9 => (intro w hSw; (try dsimp only at hSw); go_simp; try with_reducible rfl)
      (try simp only [Act.put, List.setIfInBounds_toArray, List.set_cons_zero, List.set_cons_succ])
      refine wpAnyH_take (i := 10) (oi := { dst := some 25, op := Op.move (Operand.tmp 4), type := 3, pos := "law.go:39", after := #[], guard := none }) (v := ?_) rfl (by kernel_rfl) (by kernel_rfl) (by kernel_rfl) (fun _ _ _ h => h) (Or.inl ⟨by rfl, ?hy10⟩) (by assumption) ?_
      case hy10 => (intro w hSw; (try dsimp only at hSw); go_simp; try with_reducible rfl)
      (try simp only [Act.put, List.setIfInBounds_toArray, List.set_cons_zero, List.set_cons_succ])
      refine wpAnyH_take (i := 11) (oi := { dst := some 26, op := Op.indexAddr 43 (Operand.tmp 24) (Operand.tmp 25), type := 0, pos := "law.go:39", after := #[{ on := 9, ground := Ground.data }, { on := 10, ground := Ground.data }], guard := none }) (v := ?_) rfl (by kernel_rfl) (by kernel_rfl) (by kernel_rfl) (fun _ _ _ h => h) (Or.inl ⟨by rfl, ?hy11⟩) (by assumption) ?_
      case hy11 => (intro w hSw; (try dsimp only at hSw); go_simp; try with_reducible rfl)
      (try simp only [Act.put, List.setIfInBounds_toArray, List.set_cons_zero, List.set_cons_succ])
      refine wpAnyH_take (i := 12) (oi := { dst := some 27, op := Op.fieldAddr 97 (Operand.tmp 26) 1, type := 0, pos := "law.go:39", after := #[{ on := 11, ground := Ground.data }], guard := none }) (v := ?_) rfl (by kernel_rfl) (by kernel_rfl) (by kernel_rfl) (fun _ _ _ h => h) (Or.inl ⟨by rfl, ?hy12⟩) (by assumption) ?_
      case hy12 => (intro w hSw; (try dsimp only at hSw); go_simp; try with_reducible rfl)
      (try simp only [Act.put, List.setIfInBounds_toArray, List.set_cons_zero, List.set_cons_succ])
      refine wpAnyH_take (i := 13) (oi := { dst := some 28, op := Op.load 61 (Operand.tmp 27), type := 61, pos := "law.go:39", after := #[{ on := 12, ground := Ground.data }], guard := none }) (v := ?_) rfl (by kernel_rfl) (by kernel_rfl) (by kernel_rfl) (fun _ _ _ h => h) (Or.inl ⟨by rfl, ?hy13⟩) (by assumption) ?_
      case hy13 => (intro w hSw; (try dsimp only at hSw); go_simp; try with_reducible rfl)
      (try simp only [Act.put, List.setIfInBounds_toArray, List.set_cons_zero, List.set_cons_succ])
      refine wpAnyH_take (i := 14) (oi := { dst := some 29, op := Op.build 91 #[(0, Operand.tmp 22), (1, Operand.tmp 28)], type := 91, pos := "law.go:39", after := #[{ on := 7, ground := Ground.data }, { on := 13, ground := Ground.data }], guard := none }) (v := ?_) rfl (by kernel_rfl) (by kernel_rfl) (by kernel_rfl) (fun _ _ _ h => h) (Or.inl ⟨by rfl, ?hy14⟩) (by assumption) ?_
      case hy14 => (intro w hSw; (try dsimp only at hSw); go_simp; try with_reducible rfl)
      (try simp only [Act.put, List.setIfInBounds_toArray, List.set_cons_zero, List.set_cons_succ])
      refine wpAnyH_ready (rs := [1, 15]) (by kernel_rfl) (by simp) ?_
      refine (AllReadyH.cons (o := { dst := some 16, op := Op.load 30 (Operand.tmp 15), type := 30, pos := "law.go:39", after := #[{ on := 0, ground := Ground.data }], guard := none }) rfl (fun K hK => ?_) (AllReadyH.cons (o := { dst := some 30, op := Op.buildSlice 30 1 #[(0, Operand.tmp 29)], type := 30, pos := "law.go:39", after := #[{ on := 14, ground := Ground.data }], guard := none }) rfl (fun K hK => ?_) AllReadyH.nil))
      · skip
        go_simp
        refine hK.out _ _ ?_ (fun hI => ?_)
        · exact hH
        clear hK K
        (try simp only [Act.put, List.setIfInBounds_toArray, List.set_cons_zero, List.set_cons_succ])
        refine wpAnyH_ready (rs := [15]) (by kernel_rfl) (by simp) ?_
        refine (AllReadyH.cons (o := { dst := some 30, op := Op.buildSlice 30 1 #[(0, Operand.tmp 29)], type := 30, pos := "law.go:39", after := #[{ on := 14, ground := Ground.data }], guard := none }) rfl (fun K hK => ?_) AllReadyH.nil)
        go_simp
        refine hK.out _ _ ?_ (fun hJ => ?_)
        · exact ⟨alloc_cell hI.1, alloc_cell hI.2.1, alloc_cell hI.2.2.1, alloc_cell hI.2.2.2.1, alloc_cell hI.2.2.2.2⟩
        clear hK K
        (try simp only [Act.put, List.setIfInBounds_toArray, List.set_cons_zero, List.set_cons_succ])
        refine wpAnyH_ready (rs := [16]) (by kernel_rfl) (by simp) ?_
        refine (AllReadyH.cons (o := { dst := some 31, op := Op.call { callee := Callee.builtin Builtin.append, args := #[Operand.tmp 16, Operand.tmp 30], argTypes := #[30, 30] }, type := 30, pos := "law.go:39", after := #[{ on := 1, ground := Ground.data }, { on := 15, ground := Ground.data }], guard := none }) rfl (fun K hK => ?_) AllReadyH.nil)
        refine step_append_lies _ (by rfl) _ _ _ (by rfl) (w.heap.size + 3) 91 i0 zeroSl 4 48 Tryz.underlying30 hi hz0 hz1 hz2 rfl (by decide) (.slice to k tc) k (slsC (l.take k)) (by rfl) ((HO.out.drew).alloc _) ⟨wr.heap.size, 0, none⟩ 1 1 [.string sn, .int .i64 sk, .int .i64 si, .string ss] (by rfl) (by rfl) (World.news_of_block (cs := #[.string sn, .int .i64 sk, .int .i64 si, .string ss]) (t := 91) (fr := (0, 0)) (heap_alloc_new wr.drew _)) (by simp [Value.oneCell']) (by decide) (by unfold maxLen; omega) (by omega) (by simp; omega) (wr.heap.size + 1) (by simp) ?_
        intro gk gcap w3 hown hgrow hat3 hlt3
        have q0 := hgrow.cell (alloc_cell (w := wr.drew) x1) (fun e => by have h9 := (HOb.out _ e.symm).1; simp only at h9; omega)
        have q1 := hgrow.cell (alloc_cell (w := wr.drew) c0) (fun e => by have h9 := (HOb.out _ e.symm).1; simp only at h9; omega)
        have q2 := hgrow.cell (alloc_cell (w := wr.drew) c1) (fun e => by have h9 := (HOb.out _ e.symm).1; simp only at h9; omega)
        have q3 := hgrow.cell (alloc_cell (w := wr.drew) c2) (fun e => by have h9 := (HOb.out _ e.symm).1; simp only at h9; omega)
        have q4 := hgrow.cell (alloc_cell (w := wr.drew) c3) (fun e => by have h9 := (HOb.out _ e.symm).1; simp only at h9; omega)
        have hgb : ∀ j, j < w.heap.size + 3 → w3.heap[j]? = wr.heap[j]? := fun j hj => (hgrow.block j (by simp; omega) (fun e => by have := (HOb.out j e.symm).1; omega)).trans (Below.heap_alloc _ _ _ (by show j < wr.heap.size; omega))
        have t3 : w3.cell? ⟨w.heap.size + 2, 1, none⟩ = some (.slice to k tc) := (HT.out.t.keep (hgb _ (by omega))).cell 1
        have tf := (HT.out.t.keep (hgb _ (by omega))).froz
        refine hK.out _ _ ?_ (fun hL => ?_)
        · exact ⟨q0, q1, q2, q3, q4⟩
        clear hK K
        (try simp only [Act.put, List.setIfInBounds_toArray, List.set_cons_zero, List.set_cons_succ])
        refine wpAnyH_take (i := 17) (oi := { dst := some 32, op := Op.fieldAddr 32 (Operand.tmp 3) 1, type := 0, pos := "law.go:39", after := #[{ on := 0, ground := Ground.phase }, { on := 1, ground := Ground.phase }, { on := 2, ground := Ground.phase }, { on := 3, ground := Ground.phase }, { on := 4, ground := Ground.phase }, { on := 5, ground := Ground.phase }, { on := 6, ground := Ground.phase }, { on := 7, ground := Ground.phase }, { on := 8, ground := Ground.phase }, { on := 9, ground := Ground.phase }, { on := 10, ground := Ground.phase }, { on := 11, ground := Ground.phase }, { on := 12, ground := Ground.phase }, { on := 13, ground := Ground.phase }, { on := 14, ground := Ground.phase }, { on := 15, ground := Ground.phase }, { on := 16, ground := Ground.phase }], guard := none }) (v := ?_) rfl (by kernel_rfl) (by kernel_rfl) (by kernel_rfl) (fun _ _ _ h => h) (Or.inl ⟨by rfl, ?hy17⟩) (by assumption) ?_
        case hy17 => (intro w hSw; (try dsimp only at hSw); go_simp; try with_reducible rfl)
        (try simp only [Act.put, List.setIfInBounds_toArray, List.set_cons_zero, List.set_cons_succ])
        refine wpAnyH_ready (rs := [18]) (by kernel_rfl) (by simp) ?_
        refine (AllReadyH.cons (o := { dst := none, op := Op.store 30 (Operand.tmp 32) (Operand.tmp 31), type := 0, pos := "law.go:39", after := #[{ on := 17, ground := Ground.data }, { on := 16, ground := Ground.data }, { on := 16, ground := Ground.chain }, { on := 0, ground := Ground.phase }, { on := 1, ground := Ground.phase }, { on := 2, ground := Ground.phase }, { on := 3, ground := Ground.phase }, { on := 4, ground := Ground.phase }, { on := 5, ground := Ground.phase }, { on := 6, ground := Ground.phase }, { on := 7, ground := Ground.phase }, { on := 8, ground := Ground.phase }, { on := 9, ground := Ground.phase }, { on := 10, ground := Ground.phase }, { on := 11, ground := Ground.phase }, { on := 12, ground := Ground.phase }, { on := 13, ground := Ground.phase }, { on := 14, ground := Ground.phase }, { on := 15, ground := Ground.phase }, { on := 16, ground := Ground.phase }], guard := none }) rfl (fun K hK => ?_) AllReadyH.nil)
        go_simp
        refine hK.out _ _ ?_ (fun hM => ?_)
        · exact ⟨(World.cell?_setCell_far _ _ _ _ (by show _ ≠ _; simp only; omega)).trans hL.1, (World.cell?_setCell_far _ _ _ _ (by show _ ≠ _; simp only; omega)).trans hL.2.1, (World.cell?_setCell_far _ _ _ _ (by show _ ≠ _; simp only; omega)).trans hL.2.2.1, (World.cell?_setCell_far _ _ _ _ (by show _ ≠ _; simp only; omega)).trans hL.2.2.2.1, (World.cell?_setCell_far _ _ _ _ (by show _ ≠ _; simp only; omega)).trans hL.2.2.2.2⟩
        clear hK K
        (try simp only [Act.put, List.setIfInBounds_toArray, List.set_cons_zero, List.set_cons_succ])
        refine wpAnyH_done (by kernel_rfl) ?_ _
        have hO3 : w3.ownsRow (w.heap.size + 3) 91 4 (.slice (some ⟨gk, 0, none⟩) (k + 1) gcap) (k + 1) (slsC (l.take (k + 1))) := by rw [← HKs.out]; exact hown
        have hB3 : Below w.heap.size w w3 := by
          have hs := HT.out.bel.size
          refine HT.out.bel.trans (((below_drawn (Below.refl _ wr) 1).alloc hs _).grown hgrow (by simp; omega) (fun j hj => ?_))
          have := (HOb.out j hj).1
          omega
        have HN3 : Hid (OfW 91 w (w3.setCell ⟨w.heap.size + 2, 1, none⟩ (.slice (some ⟨gk, 0, none⟩) (k + 1) gcap)) tn (some ⟨b, o, none⟩) N cap (.slice (some ⟨gk, 0, none⟩) (k + 1) gcap) (l.take (k + 1))) := by
          have hlk2 : (l.take (k + 1)).length = k + 1 := by rw [List.length_take, HN.out]; omega
          refine ⟨set_bel hB3 (by omega), (HT.out.x.keep (hgb _ (by omega))).off (by omega) _ _, (HT.out.r.keep (hgb _ (by omega))).off (by omega) _ _, (HT.out.t.keep (hgb _ (by omega))).set 1 _, ?_⟩
          rw [hlk2]
          exact ownsRow_setCell_below hO3 (by show w.heap.size + 2 < w.heap.size + 3; omega) _
        clear hown hgrow hat3 hlt3 q0 q1 q2 q3 q4 hgb t3 tf hH hI hJ hL hM hO3 hB3 HT HO HOb x1 t1 c0 c1 c2 c3
        go_wp2
        go_roundw
        case rel => exact ⟨k + 1, _, by omega, by go_num, HN3⟩
        case measure => simp [intOf]; omega
      · skip
        go_simp
        refine hK.out _ _ ?_ (fun hI => ?_)
        · exact ⟨alloc_cell hH.1, alloc_cell hH.2.1, alloc_cell hH.2.2.1, alloc_cell hH.2.2.2.1, alloc_cell hH.2.2.2.2⟩
        clear hK K
        (try simp only [Act.put, List.setIfInBounds_toArray, List.set_cons_zero, List.set_cons_succ])
        refine wpAnyH_ready (rs := [1]) (by kernel_rfl) (by simp) ?_
        refine (AllReadyH.cons (o := { dst := some 16, op := Op.load 30 (Operand.tmp 15), type := 30, pos := "law.go:39", after := #[{ on := 0, ground := Ground.data }], guard := none }) rfl (fun K hK => ?_) AllReadyH.nil)
        go_simp
        refine hK.out _ _ ?_ (fun hJ => ?_)
        · exact hI
        clear hK K
        (try simp only [Act.put, List.setIfInBounds_toArray, List.set_cons_zero, List.set_cons_succ])
        refine wpAnyH_ready (rs := [16]) (by kernel_rfl) (by simp) ?_
        refine (AllReadyH.cons (o := { dst := some 31, op := Op.call { callee := Callee.builtin Builtin.append, args := #[Operand.tmp 16, Operand.tmp 30], argTypes := #[30, 30] }, type := 30, pos := "law.go:39", after := #[{ on := 1, ground := Ground.data }, { on := 15, ground := Ground.data }], guard := none }) rfl (fun K hK => ?_) AllReadyH.nil)
        refine step_append_lies _ (by rfl) _ _ _ (by rfl) (w.heap.size + 3) 91 i0 zeroSl 4 48 Tryz.underlying30 hi hz0 hz1 hz2 rfl (by decide) (.slice to k tc) k (slsC (l.take k)) (by rfl) ((HO.out.drew).alloc _) ⟨wr.heap.size, 0, none⟩ 1 1 [.string sn, .int .i64 sk, .int .i64 si, .string ss] (by rfl) (by rfl) (World.news_of_block (cs := #[.string sn, .int .i64 sk, .int .i64 si, .string ss]) (t := 91) (fr := (0, 0)) (heap_alloc_new wr.drew _)) (by simp [Value.oneCell']) (by decide) (by unfold maxLen; omega) (by omega) (by simp; omega) (wr.heap.size + 1) (by simp) ?_
        intro gk gcap w3 hown hgrow hat3 hlt3
        have q0 := hgrow.cell (alloc_cell (w := wr.drew) x1) (fun e => by have h9 := (HOb.out _ e.symm).1; simp only at h9; omega)
        have q1 := hgrow.cell (alloc_cell (w := wr.drew) c0) (fun e => by have h9 := (HOb.out _ e.symm).1; simp only at h9; omega)
        have q2 := hgrow.cell (alloc_cell (w := wr.drew) c1) (fun e => by have h9 := (HOb.out _ e.symm).1; simp only at h9; omega)
        have q3 := hgrow.cell (alloc_cell (w := wr.drew) c2) (fun e => by have h9 := (HOb.out _ e.symm).1; simp only at h9; omega)
        have q4 := hgrow.cell (alloc_cell (w := wr.drew) c3) (fun e => by have h9 := (HOb.out _ e.symm).1; simp only at h9; omega)
        have hgb : ∀ j, j < w.heap.size + 3 → w3.heap[j]? = wr.heap[j]? := fun j hj => (hgrow.block j (by simp; omega) (fun e => by have := (HOb.out j e.symm).1; omega)).trans (Below.heap_alloc _ _ _ (by show j < wr.heap.size; omega))
        have t3 : w3.cell? ⟨w.heap.size + 2, 1, none⟩ = some (.slice to k tc) := (HT.out.t.keep (hgb _ (by omega))).cell 1
        have tf := (HT.out.t.keep (hgb _ (by omega))).froz
        refine hK.out _ _ ?_ (fun hL => ?_)
        · exact ⟨q0, q1, q2, q3, q4⟩
        clear hK K
        (try simp only [Act.put, List.setIfInBounds_toArray, List.set_cons_zero, List.set_cons_succ])
        refine wpAnyH_take (i := 17) (oi := { dst := some 32, op := Op.fieldAddr 32 (Operand.tmp 3) 1, type := 0, pos := "law.go:39", after := #[{ on := 0, ground := Ground.phase }, { on := 1, ground := Ground.phase }, { on := 2, ground := Ground.phase }, { on := 3, ground := Ground.phase }, { on := 4, ground := Ground.phase }, { on := 5, ground := Ground.phase }, { on := 6, ground := Ground.phase }, { on := 7, ground := Ground.phase }, { on := 8, ground := Ground.phase }, { on := 9, ground := Ground.phase }, { on := 10, ground := Ground.phase }, { on := 11, ground := Ground.phase }, { on := 12, ground := Ground.phase }, { on := 13, ground := Ground.phase }, { on := 14, ground := Ground.phase }, { on := 15, ground := Ground.phase }, { on := 16, ground := Ground.phase }], guard := none }) (v := ?_) rfl (by kernel_rfl) (by kernel_rfl) (by kernel_rfl) (fun _ _ _ h => h) (Or.inl ⟨by rfl, ?hy17⟩) (by assumption) ?_
        case hy17 => (intro w hSw; (try dsimp only at hSw); go_simp; try with_reducible rfl)
        (try simp only [Act.put, List.setIfInBounds_toArray, List.set_cons_zero, List.set_cons_succ])
        refine wpAnyH_ready (rs := [18]) (by kernel_rfl) (by simp) ?_
        refine (AllReadyH.cons (o := { dst := none, op := Op.store 30 (Operand.tmp 32) (Operand.tmp 31), type := 0, pos := "law.go:39", after := #[{ on := 17, ground := Ground.data }, { on := 16, ground := Ground.data }, { on := 16, ground := Ground.chain }, { on := 0, ground := Ground.phase }, { on := 1, ground := Ground.phase }, { on := 2, ground := Ground.phase }, { on := 3, ground := Ground.phase }, { on := 4, ground := Ground.phase }, { on := 5, ground := Ground.phase }, { on := 6, ground := Ground.phase }, { on := 7, ground := Ground.phase }, { on := 8, ground := Ground.phase }, { on := 9, ground := Ground.phase }, { on := 10, ground := Ground.phase }, { on := 11, ground := Ground.phase }, { on := 12, ground := Ground.phase }, { on := 13, ground := Ground.phase }, { on := 14, ground := Ground.phase }, { on := 15, ground := Ground.phase }, { on := 16, ground := Ground.phase }], guard := none }) rfl (fun K hK => ?_) AllReadyH.nil)
        go_simp
        refine hK.out _ _ ?_ (fun hM => ?_)
        · exact ⟨(World.cell?_setCell_far _ _ _ _ (by show _ ≠ _; simp only; omega)).trans hL.1, (World.cell?_setCell_far _ _ _ _ (by show _ ≠ _; simp only; omega)).trans hL.2.1, (World.cell?_setCell_far _ _ _ _ (by show _ ≠ _; simp only; omega)).trans hL.2.2.1, (World.cell?_setCell_far _ _ _ _ (by show _ ≠ _; simp only; omega)).trans hL.2.2.2.1, (World.cell?_setCell_far _ _ _ _ (by show _ ≠ _; simp only; omega)).trans hL.2.2.2.2⟩
        clear hK K
        (try simp only [Act.put, List.setIfInBounds_toArray, List.set_cons_zero, List.set_cons_succ])
        refine wpAnyH_done (by kernel_rfl) ?_ _
        have hO3 : w3.ownsRow (w.heap.size + 3) 91 4 (.slice (some ⟨gk, 0, none⟩) (k + 1) gcap) (k + 1) (slsC (l.take (k + 1))) := by rw [← HKs.out]; exact hown
        have hB3 : Below w.heap.size w w3 := by
          have hs := HT.out.bel.size
          refine HT.out.bel.trans (((below_drawn (Below.refl _ wr) 1).alloc hs _).grown hgrow (by simp; omega) (fun j hj => ?_))
          have := (HOb.out j hj).1
          omega
        have HN3 : Hid (OfW 91 w (w3.setCell ⟨w.heap.size + 2, 1, none⟩ (.slice (some ⟨gk, 0, none⟩) (k + 1) gcap)) tn (some ⟨b, o, none⟩) N cap (.slice (some ⟨gk, 0, none⟩) (k + 1) gcap) (l.take (k + 1))) := by
          have hlk2 : (l.take (k + 1)).length = k + 1 := by rw [List.length_take, HN.out]; omega
          refine ⟨set_bel hB3 (by omega), (HT.out.x.keep (hgb _ (by omega))).off (by omega) _ _, (HT.out.r.keep (hgb _ (by omega))).off (by omega) _ _, (HT.out.t.keep (hgb _ (by omega))).set 1 _, ?_⟩
          rw [hlk2]
          exact ownsRow_setCell_below hO3 (by show w.heap.size + 2 < w.heap.size + 3; omega) _
        clear hown hgrow hat3 hlt3 q0 q1 q2 q3 q4 hgb t3 tf hH hI hJ hL hM hO3 hB3 HT HO HOb x1 t1 c0 c1 c2 c3
        go_wp2
        go_roundw
        case rel => exact ⟨k + 1, _, by omega, by go_num, HN3⟩
        case measure => simp [intOf]; omega
    · have hki : ¬ (k : Int) < (N : Int) := by omega
      obtain rfl : k = N := by omega
      rw [List.take_of_length_le (by rw [HN.out]; exact Nat.le_refl _)] at hsl2
      have r0 : wr.cell? ⟨w.heap.size + 1, 0, none⟩ = some (.string ⟨#[]⟩) := HT.out.r.cell 0
      have r1 : wr.cell? ⟨w.heap.size + 1, 1, none⟩ = some (.slice none 0 0) := HT.out.r.cell 1
      have rf := HT.out.r.froz
      have t0 : wr.cell? ⟨w.heap.size + 2, 0, none⟩ = some (.string tn) := HT.out.t.cell 0
      have t1 : wr.cell? ⟨w.heap.size + 2, 1, none⟩ = some (.slice to k tc) := HT.out.t.cell 1
      have hne : ∀ b o, to = some ⟨b, o, none⟩ → b ≠ w.heap.size + 1 := fun b o e h => by
        subst e
        have := (HT.out.own.lt b rfl).1
        omega
      have HSe : Hid (IsSls ((wr.setCell ⟨w.heap.size + 1, 0, none⟩ (.string tn)).setCell ⟨w.heap.size + 1, 1, none⟩ (.slice to k tc)) to l) := (hsl2.set hne).set hne
      have HBe : Hid (Below w.heap.size w ((wr.setCell ⟨w.heap.size + 1, 0, none⟩ (.string tn)).setCell ⟨w.heap.size + 1, 1, none⟩ (.slice to k tc))) := set_bel (set_bel HT.out.bel (by omega)) (by omega)
      have hc9 : k ≤ tc := hcap2
      clear hsl2 HT hne
      go_wp2
      exact bodyPost_ret (v := .agg #[.string tn, .slice to k tc]) (by simp [results, Tryz.results20, go_sem, r0, r1]) rfl ⟨⟨to, tc, rfl, hc9, HSe.out⟩, HBe.out⟩
end Go.Proofs.YtlniifheapoppaaGreatDoor
/- Templates that are the same: the program's Same, the reference's. -/
namespace Go.Proofs.YtlniifheapoppaaGreatDoor
open Go.RowKit

set_option maxHeartbeats 8000000 in
set_option maxRecDepth 8000 in
theorem sequal_any (L : List Sl) (N : Nat) (ao bo : Option Addr) (ca cb : Nat) (w : World) (hL : L.length = N) (hN : N ≤ 1000) (h : IsSls w ao L) (h2 : IsSls w bo L) :
    Calls Tryz.prog 50 #[.slice ao N ca, .slice bo N cb] w fun e w' => e = .returned (.bool true) ∧ Below w.heap.size w w' := by
  have HL : Hid (L.length = N) := hL
  have HI : Hid (IsSls w ao L) := h
  have HJ : Hid (IsSls w bo L) := h2
  have hn : ((N : Int) != (N : Int)) = false := by simp
  clear hL h h2
  go_enter Tryz.func50, Tryz.ntmps50
  go_wp2
  go_loopw [13] (fun q wr => ∃ k : Nat, k ≤ N ∧ q = .int .i64 k ∧ Hid (Below w.heap.size w wr)) (fun q _ => N - (intOf q).toNat)
  case atStart => exact ⟨0, Nat.zero_le _, rfl, Below.refl _ _⟩
  case round =>
    obtain ⟨k, hk, rfl, HB⟩ := hrel
    by_cases hlt : k < N
    · have hki : (k : Int) < (N : Int) := by omega
      have hk0 : (0 : Int) ≤ (k : Int) := by omega
      obtain ⟨s, hs⟩ : ∃ s, L[k]? = some s := ⟨_, List.getElem?_eq_getElem (by rw [HL.out]; exact hlt)⟩
      obtain ⟨b, o, rfl, c0, c1, c2, c3⟩ := (HI.out.next HB.out) k s hs
      obtain ⟨b2, o2, rfl, d0, d1, d2, d3⟩ := (HJ.out.next HB.out) k s hs
      obtain ⟨sn, sk, si, ss⟩ := s
      simp only at c0 c1 c2 c3 d0 d1 d2 d3
      clear hs
      go_wp2
      go_region_held3 (fun w' => w'.cell? ⟨b, o + k * 4, none⟩ = some (.string sn) ∧ w'.cell? ⟨b, o + k * 4 + 1, none⟩ = some (.int .i64 sk) ∧ w'.cell? ⟨b, o + k * 4 + 2, none⟩ = some (.int .i64 si) ∧ w'.cell? ⟨b, o + k * 4 + 3, none⟩ = some (.string ss) ∧ w'.cell? ⟨b2, o2 + k * 4, none⟩ = some (.string sn) ∧ w'.cell? ⟨b2, o2 + k * 4 + 1, none⟩ = some (.int .i64 sk) ∧ w'.cell? ⟨b2, o2 + k * 4 + 2, none⟩ = some (.int .i64 si) ∧ w'.cell? ⟨b2, o2 + k * 4 + 3, none⟩ = some (.string ss))
        (((try dsimp only); go_split_ands; refine ⟨?_, ?_, ?_, ?_, ?_, ?_, ?_, ?_⟩ <;> first | assumption | exact keep_cell (by assumption) (by assumption)))
        (fail)
      all_goals
        go_split_ands
        have HB2 : Hid (Below w.heap.size w wr.drew) := HB.out.drew
        go_wp2
        go_roundw
        case rel => exact ⟨k + 1, by omega, by go_num, HB2⟩
        case measure => simp [intOf]; omega
    · have hki : ¬ (k : Int) < (N : Int) := by omega
      go_wp2
      go_ret
      exact ⟨rfl, HB.out⟩

set_option maxHeartbeats 4000000 in
set_option maxRecDepth 8000 in
theorem tsame_any (T : Tp) (ao bo : Option Addr) (ca cb : Nat) (w : World) (hN : T.l.length ≤ 1000) (h : IsSls w ao T.l) (h2 : IsSls w bo T.l) :
    Calls Tryz.prog 15 #[tmV T ao ca, tmV T bo cb] w fun e w' => e = .returned (.bool true) ∧ Below w.heap.size w w' := by
  obtain ⟨tn, l⟩ := T
  unfold tmV
  simp only at hN h h2 ⊢
  obtain ⟨N, HN⟩ : ∃ N, Hid (l.length = N) := ⟨_, rfl⟩
  have HQ : Hid (∀ w', Below w.heap.size w w' → Calls Tryz.prog 50 #[.slice ao N ca, .slice bo N cb] w' fun e w2 => e = .returned (.bool true) ∧ Below w'.heap.size w' w2) := fun w' hw =>
    sequal_any l N ao bo ca cb w' HN.out (by rw [HN.out] at hN; exact hN) (h.next hw) (h2.next hw)
  rw [HN.out]
  have hd : (tn.toList == tn.toList) = true := by rw [beq_ba]; exact decide_eq_true rfl
  obtain ⟨W, HWe⟩ : ∃ W, Hid ((w.alloc (.cells #[.string tn, .slice ao N ca] 32)).alloc (.cells #[.string tn, .slice bo N cb] 32) = W) := ⟨_, rfl⟩
  have HB : Hid (Below w.heap.size w W) := by rw [← HWe.out]; exact next_trans (alloc_below _ _) (alloc_below _ _)
  clear h h2 hN
  go_enter Tryz.func15, Tryz.ntmps15
  go_wp2_with fail
  rw [HWe.out]
  refine (HQ.out W HB.out).mono ?_
  rintro e w1 ⟨rfl, hb⟩
  have HB1 : Hid (Below w.heap.size w w1) := next_trans HB.out hb
  clear hb
  go_wp2
  go_ret
  exact ⟨rfl, HB1.out⟩

set_option maxHeartbeats 8000000 in
set_option maxRecDepth 8000 in
theorem rtsame_any (T : Tp) (ao bo : Option Addr) (ca cb : Nat) (w : World) (hN : T.l.length ≤ 1000) (h : IsSls w ao T.l) (h2 : IsSls w bo T.l) :
    Calls Tryz.prog 12 #[tmV T ao ca, tmV T bo cb] w fun e w' => e = .returned (.bool true) ∧ Below w.heap.size w w' := by
  obtain ⟨tn, l⟩ := T
  unfold tmV
  simp only at hN h h2 ⊢
  obtain ⟨N, HN⟩ : ∃ N, Hid (l.length = N) := ⟨_, rfl⟩
  rw [HN.out] at hN ⊢
  have HI : Hid (IsSls w ao l) := h
  have HJ : Hid (IsSls w bo l) := h2
  have hd : (tn.toList == tn.toList) = true := by rw [beq_ba]; exact decide_eq_true rfl
  have hn : ((N : Int) != (N : Int)) = false := by simp
  obtain ⟨W, HWe⟩ : ∃ W, Hid ((w.alloc (.cells #[.string tn, .slice ao N ca] 45)).alloc (.cells #[.string tn, .slice bo N cb] 45) = W) := ⟨_, rfl⟩
  have HB : Hid (Below w.heap.size w W) := by rw [← HWe.out]; exact next_trans (alloc_below _ _) (alloc_below _ _)
  have HA : Hid (Bx W w.heap.size #[.string tn, .slice ao N ca]) := by rw [← HWe.out]; exact (Bx.made _ _ _).alloc _
  have HC : Hid (Bx W (w.heap.size + 1) #[.string tn, .slice bo N cb]) := Bx.made' HWe.out (by simp)
  clear h h2
  go_enter Tryz.func12, Tryz.ntmps12
  go_wp2
  rw [HWe.out]
  clear HWe
  go_loopw [5] (fun q wr => ∃ k : Nat, k ≤ N ∧ q = .int .i64 k ∧ Hid (Below w.heap.size w wr) ∧ Hid (Bx wr w.heap.size #[.string tn, .slice ao N ca]) ∧ Hid (Bx wr (w.heap.size + 1) #[.string tn, .slice bo N cb])) (fun q _ => N - (intOf q).toNat)
  case atStart => exact ⟨0, Nat.zero_le _, rfl, HB, HA, HC⟩
  case round =>
    obtain ⟨k, hk, rfl, HB, HA, HC⟩ := hrel
    have x1 : wr.cell? ⟨w.heap.size, 1, none⟩ = some (.slice ao N ca) := HA.out.cell 1
    have y1 : wr.cell? ⟨w.heap.size + 1, 1, none⟩ = some (.slice bo N cb) := HC.out.cell 1
    by_cases hlt : k < N
    · have hki : (k : Int) < (N : Int) := by omega
      have hk0 : (0 : Int) ≤ (k : Int) := by omega
      obtain ⟨s, hs⟩ : ∃ s, l[k]? = some s := ⟨_, List.getElem?_eq_getElem (by rw [HN.out]; exact hlt)⟩
      obtain ⟨b, o, rfl, c0, c1, c2, c3⟩ := (HI.out.next HB.out) k s hs
      obtain ⟨b2, o2, rfl, d0, d1, d2, d3⟩ := (HJ.out.next HB.out) k s hs
      obtain ⟨sn, sk, si, ss⟩ := s
      simp only at c0 c1 c2 c3 d0 d1 d2 d3
      have hsd : (sn.toList == sn.toList) = true := by rw [beq_ba]; exact decide_eq_true rfl
      have HSm : Hid (∀ w : World, Calls Tryz.prog 46 #[.agg #[.int .i64 (sk), .int .i64 (si), .string (ss)], .agg #[.int .i64 (sk), .int .i64 (si), .string (ss)]] w fun e w' => e = .returned (.bool true) ∧ Below w.heap.size w w') := by
        intro w; rw [← sameB_refl sk si ss]; exact rsame_any sk si sk si ss ss w
      clear hs
      go_wp2
      go_region_held3 (fun w' => w'.cell? ⟨w.heap.size, 1, none⟩ = some (.slice (some ⟨b, o, none⟩) N ca) ∧ w'.cell? ⟨w.heap.size + 1, 1, none⟩ = some (.slice (some ⟨b2, o2, none⟩) N cb) ∧ w'.cell? ⟨b, o + k * 4, none⟩ = some (.string sn) ∧ w'.cell? ⟨b, o + k * 4 + 1, none⟩ = some (.int .i64 sk) ∧ w'.cell? ⟨b, o + k * 4 + 2, none⟩ = some (.int .i64 si) ∧ w'.cell? ⟨b, o + k * 4 + 3, none⟩ = some (.string ss) ∧ w'.cell? ⟨b2, o2 + k * 4, none⟩ = some (.string sn) ∧ w'.cell? ⟨b2, o2 + k * 4 + 1, none⟩ = some (.int .i64 sk) ∧ w'.cell? ⟨b2, o2 + k * 4 + 2, none⟩ = some (.int .i64 si) ∧ w'.cell? ⟨b2, o2 + k * 4 + 3, none⟩ = some (.string ss))
        (((try dsimp only); go_split_ands; refine ⟨?_, ?_, ?_, ?_, ?_, ?_, ?_, ?_, ?_, ?_⟩ <;> first | assumption | exact keep_cell (by assumption) (by assumption)))
        (first
          | (go_at_call 46; refine (HSm.out _).mono ?_; rintro e w4 ⟨rfl, hb⟩; have hb4 := hb))
      all_goals
        go_split_ands
        have HB2 : Hid (Below w.heap.size w w4) := next_trans HB.out (below_undrawn hb4)
        have HA2 : Hid (Bx w4 w.heap.size #[.string tn, .slice (some ⟨b, o, none⟩) N ca]) := HA.out.next (below_undrawn hb4)
        have HC2 : Hid (Bx w4 (w.heap.size + 1) #[.string tn, .slice (some ⟨b2, o2, none⟩) N cb]) := HC.out.next (below_undrawn hb4)
        go_wp2
        go_roundw
        case rel => exact ⟨k + 1, by omega, by go_num, HB2, HA2, HC2⟩
        case measure => simp [intOf]; omega
    · have hki : ¬ (k : Int) < (N : Int) := by omega
      go_wp2
      go_ret
      exact ⟨rfl, HB.out⟩
end Go.Proofs.YtlniifheapoppaaGreatDoor
