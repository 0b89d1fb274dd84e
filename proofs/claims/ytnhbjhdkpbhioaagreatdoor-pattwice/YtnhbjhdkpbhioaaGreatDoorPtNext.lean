/- Package pat: the test that comes next. -/
import Derived.Test.YtnhbjhdkpbhioaaGreatDoorPtTerm
import Derived.Test.YtnhbjhdkpbhioaaGreatDoorPtFind
import Derived.Deep.RegionHeld3
namespace Go.Proofs.YtnhbjhdkpbhioaaGreatDoor
open Go.RowKit

def NxE : Except Int Ts → Ts → Int → Prop
  | .ok t', t, f => t = t' ∧ f = 0
  | .error g, _, f => f = g
def NxR (Q : Except Int Ts) (e : Ending) : Prop := ∃ (t : Ts) (f : Int), e = .returned (.tuple #[tsV t, .int .i64 f]) ∧ NxE Q t f
theorem NxR.bad {Q : Except Int Ts} {g : Int} (t : Ts) (h : Q = .error g) : NxR Q (.returned (.tuple #[tsV t, .int .i64 g])) := by subst h; exact ⟨t, g, rfl, rfl⟩
theorem NxR.good {Q : Except Int Ts} {t : Ts} (h : Q = .ok t) : NxR Q (.returned (.tuple #[tsV t, .int .i64 0])) := by subst h; exact ⟨t, 0, rfl, rfl, rfl⟩
theorem next_head {T : List Sl} {acc : List Ts} {x : Nd} (h : hasH x = false) : nextR T acc x = .error 2 := by
  unfold nextR
  unfold hasH at h
  cases e : headO x with
  | none => rfl
  | some s => rw [e] at h; cases h
theorem hasH_get {x : Nd} (h : hasH x = true) : ∃ m r, x.l = m :: r ∧ m.k = 2 ∧ headO x = some m.s := by
  obtain ⟨k, a, i, s, l⟩ := x
  unfold hasH headO at h
  simp only at h
  split at h
  · rename_i hk
    split at h
    · rename_i m r
      split at h
      · rename_i hm
        exact ⟨m, r, rfl, hm, by unfold headO; rw [if_pos hk]; simp only; rw [if_pos hm]⟩
      · cases h
    · cases h
  · cases h
theorem next_len {T : List Sl} {acc : List Ts} {x : Nd} (h : x.l.length ≠ 2) : nextR T acc x = .error 2 := by
  unfold nextR
  cases e : headO x with
  | none => rfl
  | some s =>
    simp only
    match x.l, h with
    | [], _ => rfl
    | [_], _ => rfl
    | [_, _], h => exact absurd rfl h
    | _ :: _ :: _ :: _, _ => rfl
theorem next_go {T : List Sl} {acc : List Ts} {x m y : Nd} (h : headO x = some m.s) (hl : x.l = [m, y]) : nextR T acc x = match placeS T (baL m.s) with
    | none => .error 5
    | some p => if hasP acc p = true then .error 6 else (match termN y with
      | none => .error 2
      | some t => .ok (atTs p t)) := by
  unfold nextR
  rw [h, hl]
  rfl
/-- Its boxes: the pattern, the node, the template, the result. -/
structure NxW (w wr : World) (pt : ByteArray) (po : Option Addr) (C pc : Nat) (K A I : Int) (Y : ByteArray) (ao : Option Addr) (M cap : Nat) (tn : ByteArray) (to : Option Addr) (N tc : Nat) : Prop where
  bel : Below w.heap.size w wr
  p : Bx wr w.heap.size #[.string pt, .slice po C pc]
  n : Bx wr (w.heap.size + 1) #[.int .i64 K, .int .i64 A, .int .i64 I, .string Y, .slice ao M cap]
  t : Bx wr (w.heap.size + 1 + 1) #[.string tn, .slice to N tc]
  r : Bx wr (w.heap.size + 1 + 1 + 1) #[.int .i64 0, .bool false, .string ⟨#[]⟩, .int .i64 0, .int .i64 0, .string ⟨#[]⟩]
theorem NxW.next {w wr w' : World} {pt : ByteArray} {po : Option Addr} {C pc : Nat} {K A I : Int} {Y : ByteArray} {ao : Option Addr} {M cap : Nat} {tn : ByteArray} {to : Option Addr} {N tc : Nat} (h : NxW w wr pt po C pc K A I Y ao M cap tn to N tc) (hb : Below wr.heap.size wr w') : NxW w w' pt po C pc K A I Y ao M cap tn to N tc :=
  ⟨next_trans h.bel hb, h.p.next hb, h.n.next hb, h.t.next hb, h.r.next hb⟩
theorem NxW.made {w W : World} {pt : ByteArray} {po : Option Addr} {C pc : Nat} {K A I : Int} {Y : ByteArray} {ao : Option Addr} {M cap : Nat} {tn : ByteArray} {to : Option Addr} {N tc : Nat}
    (h : (((w.alloc (.cells #[.string pt, .slice po C pc] 36)).alloc (.cells #[.int .i64 K, .int .i64 A, .int .i64 I, .string Y, .slice ao M cap] 43)).alloc (.cells #[.string tn, .slice to N tc] 108)).alloc (.cells #[.int .i64 0, .bool false, .string ⟨#[]⟩, .int .i64 0, .int .i64 0, .string ⟨#[]⟩] 88) = W) : NxW w W pt po C pc K A I Y ao M cap tn to N tc := by
  refine ⟨?_, ?_, ?_, ?_, ?_⟩
  · rw [← h]; exact next_trans (next_trans (next_trans (alloc_below _ _) (alloc_below _ _)) (alloc_below _ _)) (alloc_below _ _)
  · rw [← h]; exact (((Bx.made _ _ _).alloc _).alloc _).alloc _
  · rw [← h]; exact ((Bx.made' rfl (by simp)).alloc _).alloc _
  · rw [← h]; exact (Bx.made' rfl (by simp)).alloc _
  · exact Bx.made' h (by simp)
theorem NxW.done {w wr : World} {pt : ByteArray} {po : Option Addr} {C pc : Nat} {K A I : Int} {Y : ByteArray} {ao : Option Addr} {M cap : Nat} {tn : ByteArray} {to : Option Addr} {N tc : Nat} (h : NxW w wr pt po C pc K A I Y ao M cap tn to N tc) (v0 v1 v2 v3 v4 v5 : Value) :
    Below w.heap.size w ((((((wr.setCell ⟨w.heap.size + 1 + 1 + 1, 0, none⟩ v0).setCell ⟨w.heap.size + 1 + 1 + 1, 1, none⟩ v1).setCell ⟨w.heap.size + 1 + 1 + 1, 2, none⟩ v2).setCell ⟨w.heap.size + 1 + 1 + 1, 3, none⟩ v3).setCell ⟨w.heap.size + 1 + 1 + 1, 4, none⟩ v4).setCell ⟨w.heap.size + 1 + 1 + 1, 5, none⟩ v5) :=
  set_bel (set_bel (set_bel (set_bel (set_bel (set_bel h.bel (by omega)) (by omega)) (by omega)) (by omega)) (by omega)) (by omega)

set_option maxHeartbeats 8000000 in
set_option maxRecDepth 8000 in
theorem pnextt_any (P : Ptn) (po : Option Addr) (pc : Nat) (x : Nd) (ao : Option Addr) (cap : Nat) (T : Tp) (to : Option Addr) (tc : Nat) (w : World) (hP : P.l.length ≤ 100000) (hs : IsTss w po P.l) (hc : x.l.length ≤ cap) (hb : cntN x ≤ 100000) (hk : IsNds w anyB ao x.l) (hN : T.l.length ≤ 1000) (ht : IsSls w to T.l) :
    Calls Tryz.prog 46 #[ptV P po pc, ndV x ao cap, tmV T to tc] w fun e w' => NxR (nextR T.l P.l x) e ∧ Below w.heap.size w w' := by
  obtain ⟨Q, HQ⟩ : ∃ Q, Hid (nextR T.l P.l x = Q) := ⟨_, rfl⟩
  rw [HQ.out]
  obtain ⟨pt, pl⟩ := P
  obtain ⟨tn, tl⟩ := T
  unfold ptV tmV
  simp only at hP hs hN ht HQ ⊢
  have hML : x.l.length ≤ 100000 := by have h1 := cntL_len x.l; unfold cntN at hb; omega
  have HTs : Hid (IsTss w po pl) := hs
  have HSl : Hid (IsSls w to tl) := ht
  have HKs : Hid (IsNds w anyB ao x.l) := hk
  have HCn : Hid (∀ y ∈ x.l, cntN y ≤ 100000) := fun y hy => by have h1 := cntL_mem x.l y hy; unfold cntN at hb; omega
  obtain ⟨q, Hq⟩ : ∃ q, Hid (hasH x = q) := ⟨_, rfl⟩
  have HHd : Hid (∀ w', Below w.heap.size w w' → Calls Tryz.prog 43 #[ndV x ao cap] w' fun e w2 => e = .returned (.bool q) ∧ Below w'.heap.size w' w2) := by
    rw [← Hq.out]; exact fun w' h => hashead_any x ao cap w' hc (hk.next h)
  obtain ⟨K, A, I, Y, M, H, Hx⟩ := nd_open x ao cap
  have HCL : Hid (x.l.length ≤ cap) := hc
  rw [H.out] at HHd ⊢
  have HMx : Hid (x.l.length = M) := Hx.out.2.2.2.2
  rw [HMx.out] at hML hc
  obtain ⟨C, HC⟩ : ∃ C, Hid (pl.length = C) := ⟨_, rfl⟩
  obtain ⟨N, HN⟩ : ∃ N, Hid (tl.length = N) := ⟨_, rfl⟩
  rw [HC.out] at hP ⊢
  rw [HN.out]
  have HN1 : Hid (tl.length ≤ 1000) := hN
  obtain ⟨W, HWe⟩ : ∃ W, Hid ((((w.alloc (.cells #[.string pt, .slice po C pc] 36)).alloc (.cells #[.int .i64 K, .int .i64 A, .int .i64 I, .string Y, .slice ao M cap] 43)).alloc (.cells #[.string tn, .slice to N tc] 108)).alloc (.cells #[.int .i64 0, .bool false, .string ⟨#[]⟩, .int .i64 0, .int .i64 0, .string ⟨#[]⟩] 88) = W) := ⟨_, rfl⟩
  have HT : Hid (NxW w W pt po C pc K A I Y ao M cap tn to N tc) := NxW.made HWe.out
  have n0 : W.cell? ⟨w.heap.size + 1, 0, none⟩ = some (.int .i64 K) := HT.out.n.cell 0
  have n1 : W.cell? ⟨w.heap.size + 1, 1, none⟩ = some (.int .i64 A) := HT.out.n.cell 1
  have n2 : W.cell? ⟨w.heap.size + 1, 2, none⟩ = some (.int .i64 I) := HT.out.n.cell 2
  have n3 : W.cell? ⟨w.heap.size + 1, 3, none⟩ = some (.string Y) := HT.out.n.cell 3
  have n4 : W.cell? ⟨w.heap.size + 1, 4, none⟩ = some (.slice ao M cap) := HT.out.n.cell 4
  clear hs hk hb hN ht H Hx
  go_enter Tryz.func46, Tryz.ntmps46
  go_wp2_with fail
  rw [HWe.out]
  clear HWe
  refine (HHd.out W HT.out.bel).mono ?_
  rintro e w1 ⟨rfl, hb1⟩
  have HT1 : Hid (NxW w w1 pt po C pc K A I Y ao M cap tn to N tc) := HT.out.next hb1
  have hl1 : w.heap.size + 1 + 1 + 1 < w1.heap.size := HT1.out.r.lt
  clear hb1 n0 n1 n2 n3 n4 HHd HT
  have n4 : w1.cell? ⟨w.heap.size + 1, 4, none⟩ = some (.slice ao M cap) := HT1.out.n.cell 4
  by_cases hbad : q = false ∨ M ≠ 2
  case pos =>
    have HQe : Hid (Q = .error 2) := by
      rw [Hid, ← HQ.out]
      rcases hbad with h | h
      · exact next_head (by rw [Hq.out, h])
      · exact next_len (by rw [HMx.out]; exact h)
    have r0 : w1.cell? ⟨w.heap.size + 1 + 1 + 1, 0, none⟩ = some (.int .i64 0) := HT1.out.r.cell 0
    have r1 : w1.cell? ⟨w.heap.size + 1 + 1 + 1, 1, none⟩ = some (.bool false) := HT1.out.r.cell 1
    have r2 : w1.cell? ⟨w.heap.size + 1 + 1 + 1, 2, none⟩ = some (.string ⟨#[]⟩) := HT1.out.r.cell 2
    have r3 : w1.cell? ⟨w.heap.size + 1 + 1 + 1, 3, none⟩ = some (.int .i64 0) := HT1.out.r.cell 3
    have r4 : w1.cell? ⟨w.heap.size + 1 + 1 + 1, 4, none⟩ = some (.int .i64 0) := HT1.out.r.cell 4
    have r5 : w1.cell? ⟨w.heap.size + 1 + 1 + 1, 5, none⟩ = some (.string ⟨#[]⟩) := HT1.out.r.cell 5
    have rf := HT1.out.r.froz
    have HD := HT1.out.done
    by_cases hq : q = false
    · subst hq
      clear HQ Hq hbad HTs HSl HKs HCn HCL HMx HC HN HN1 HT1
      go_wp2
      exact bodyPost_ret (v := .tuple #[tsV ⟨0, false, noS, 0, 0, noS⟩, .int .i64 2]) (by simp [results, Tryz.results46, go_sem, r0, r1, r2, r3, r4, r5, tsV, noS]) rfl ⟨NxR.bad _ HQe.out, HD _ _ _ _ _ _⟩
    · obtain rfl : q = true := by simpa using hq
      have hM : M ≠ 2 := by
        rcases hbad with h | h
        · cases h
        · exact h
      have hd : ((M : Int) == 2) = false := by simp; omega
      clear HQ Hq hbad HTs HSl HKs HCn HCL HMx HC HN HN1 HT1 hq
      go_wp2
      exact bodyPost_ret (v := .tuple #[tsV ⟨0, false, noS, 0, 0, noS⟩, .int .i64 2]) (by simp [results, Tryz.results46, go_sem, r0, r1, r2, r3, r4, r5, tsV, noS]) rfl ⟨NxR.bad _ HQe.out, HD _ _ _ _ _ _⟩
  have hq : q = true := by
    cases q with
    | true => rfl
    | false => exact absurd (.inl rfl) hbad
  subst hq
  have hM2 : M = 2 := by
    rcases Nat.decEq M 2 with h | h
    · exact absurd (.inr h) hbad
    · exact h
  subst hM2
  clear hbad
  obtain ⟨m, r, hl, hmk, hho⟩ := hasH_get Hq.out
  have hrl : r.length = 1 := by have := HMx.out; rw [hl, List.length_cons] at this; omega
  obtain ⟨y, rfl⟩ : ∃ y, r = [y] := by
    match r, hrl with
    | [y], _ => exact ⟨y, rfl⟩
  have HQg : Hid (Q = match placeS tl (baL m.s) with
    | none => .error 5
    | some p => if hasP pl p = true then .error 6 else (match termN y with
      | none => .error 2
      | some t => .ok (atTs p t))) := by rw [Hid, ← HQ.out]; exact next_go hho hl
  have hk1 := HKs.out.next HT1.out.bel
  have hy0 : x.l[0]? = some m := by rw [hl]; rfl
  have hy1 : x.l[1]? = some y := by rw [hl]; rfl
  have hcy : cntN y ≤ 100000 := HCn.out y (by rw [hl]; simp)
  obtain ⟨b, o, va, vc, K1, A1, I1, Y1, M1, hao, H1, Hv, hw1, _⟩ := kid_get hk1 hy0
  obtain ⟨b2, o2, va2, vc2, K2, A2, I2, Y2, M2, hao2, H2, Hv2, hw2, Hk2⟩ := kid_get hk1 hy1
  subst hao
  obtain ⟨rfl, rfl⟩ : b2 = b ∧ o2 = o := by injection hao2 with h; injection h with h1 h2; exact ⟨h1.symm, h2.symm⟩
  obtain ⟨c0, c1, c2, c3, c4⟩ := hw1
  rw [Nat.zero_mul, Nat.add_zero] at c0 c1 c2 c3 c4
  have HY1 : Hid (baL m.s = Y1) := Hv.out.2.2.2.1
  rw [HY1.out] at HQg
  have HW2 : Hid (KidW w1 b2 (o2 + 1 * 5) K2 A2 I2 Y2 va2 M2 vc2) := hw2
  have HTm : Hid (∀ w', Below w1.heap.size w1 w' → Calls Tryz.prog 86 #[.agg #[.int .i64 (K2), .int .i64 (A2), .int .i64 (I2), .string (Y2), .slice va2 M2 vc2]] w' fun e w2 => PlR (termN y) e ∧ Below w'.heap.size w' w2) := by
    rw [← H2.out]; exact fun w' h => pterm_any y va2 vc2 w' Hk2.out.1 (by have h1 := cntL_len y.l; unfold cntN at hcy; omega) (Hk2.out.2.next h)
  obtain ⟨pq, HPq⟩ : ∃ pq, Hid (placeS tl Y1 = pq) := ⟨_, rfl⟩
  obtain ⟨pi, HPi⟩ : ∃ pi, Hid (placeI tl Y1 = pi) := ⟨_, rfl⟩
  have HSt : Hid (∀ w', Below w.heap.size w w' → Calls Tryz.prog 83 #[.agg #[.string tn, .slice to N tc], .string Y1] w' fun e w2 => e = .returned (.tuple #[.int .i64 pi, .bool pq.isSome]) ∧ Below w'.heap.size w' w2) := by
    intro w' h
    have := tslot_any ⟨tn, tl⟩ to tc Y1 w' HN1.out (HSl.out.next h)
    unfold tmV at this
    simp only at this
    rw [HPi.out, HPq.out, HN.out] at this
    exact this
  rw [HPq.out] at HQg
  have t0 : w1.cell? ⟨w.heap.size + 1 + 1, 0, none⟩ = some (.string tn) := HT1.out.t.cell 0
  have t1 : w1.cell? ⟨w.heap.size + 1 + 1, 1, none⟩ = some (.slice to N tc) := HT1.out.t.cell 1
  have HB1 : Hid (Below w.heap.size w w1) := HT1.out.bel
  clear HQ Hq HCn H1 Hv H2 Hv2 hw2 Hk2 hk1 hy0 hy1 hcy hl hmk hho hrl hao2
  go_wp2_with fail
  have hne1 : w.heap.size + 1 + 1 ≠ w1.heap.size := by omega
  have hne2 : w.heap.size + 1 ≠ w1.heap.size := by omega
  have hne3 : b2 ≠ w1.heap.size := by have := World.block_lt_of_cell? w1 ⟨b2, _, none⟩ c3; simp only at this; omega
  go_region_held3 (fun w' => w'.cell? ⟨w.heap.size + 1 + 1, 0, none⟩ = some (.string tn) ∧ w'.cell? ⟨w.heap.size + 1 + 1, 1, none⟩ = some (.slice to N tc) ∧ w'.cell? ⟨w.heap.size + 1, 4, none⟩ = some (.slice (some ⟨b2, o2, none⟩) 2 cap) ∧ w'.cell? ⟨b2, o2 + 3, none⟩ = some (.string Y1))
    (((try dsimp only); go_split_ands; refine ⟨?_, ?_, ?_, ?_⟩ <;> first | assumption | exact keep_cell (by assumption) (by assumption) | exact alloc_cell (by assumption) | exact (World.cell?_setCell_far _ _ _ _ (by show _ ≠ _; exact Ne.symm (by assumption))).trans (by assumption)))
    (first
      | (go_at_call 83; refine calls_in (W2 := w1) ?_ (fun hBf => ?_); (first | exact (Below.refl _ _).drew | exact Below.refl _ _ | exact (alloc_below _ _).drew | exact alloc_below _ _ | (fail "bel")); refine (HSt.out _ (next_trans HB1.out hBf)).mono ?_; rintro e w3 ⟨rfl, hb⟩; have hb3 : Below w1.heap.size w1 w3 := next_trans hBf hb; have q0 := keep_cell hb3 t0; have q1 := keep_cell hb3 t1; have q2 := keep_cell hb3 n4; have q3 := keep_cell hb3 c3; have bx : Bx w3 w1.heap.size #[.int .i64 0] := (Bx.made w1 3 #[.int .i64 0]).next (below_undrawn hb); have bx0 : w3.cell? ⟨w1.heap.size, 0, none⟩ = some (.int .i64 0) := bx.cell 0; have bxf := bx.froz)
      | (go_at_call 83; refine calls_in (W2 := w1) ?_ (fun hBf => ?_); (first | exact (Below.refl _ _).drew | exact Below.refl _ _ | exact (alloc_below _ _).drew | exact alloc_below _ _ | (fail "bel")); refine (HSt.out _ (next_trans HB1.out hBf)).mono ?_; rintro e w3 ⟨rfl, hb⟩; have hb3 : Below w1.heap.size w1 w3 := next_trans hBf hb; have q0 := keep_cell hb3 t0; have q1 := keep_cell hb3 t1; have q2 := keep_cell hb3 n4; have q3 := keep_cell hb3 c3))
  · obtain ⟨W5, HW5⟩ : ∃ W5, Hid (w3.alloc (.cells #[.int .i64 pi] 3) = W5) := ⟨_, rfl⟩
    obtain ⟨BX, HBX⟩ : ∃ BX, Hid (w3.heap.size = BX) := ⟨_, rfl⟩
    have HB15 : Hid (Below w1.heap.size w1 W5) := by rw [← HW5.out]; exact next_trans hb3 (alloc_below _ _)
    have HX5 : Hid (Bx W5 BX #[.int .i64 pi]) := Bx.made' HW5.out HBX.out
    have HT5 : Hid (NxW w W5 pt po C pc K A I Y (some ⟨b2, o2, none⟩) 2 cap tn to N tc) := HT1.out.next HB15.out
    rw [HW5.out, HBX.out]
    go_split_ands
    clear hb hBf hb3 q0 q1 q2 q3 t0 t1 n4 c0 c1 c2 c3 c4 HSt HT1 HB1 hl1 hne1 hne2 hne3 HW5 HBX
    have hl5 : w.heap.size + 1 + 1 + 1 < W5.heap.size := HT5.out.r.lt
    have HC5 : Hid (Bx W5 BX #[.int .i64 pi]) := HX5
    clear HX5
    cases pq with
    | none =>
      have r0 : W5.cell? ⟨w.heap.size + 1 + 1 + 1, 0, none⟩ = some (.int .i64 0) := HT5.out.r.cell 0
      have r1 : W5.cell? ⟨w.heap.size + 1 + 1 + 1, 1, none⟩ = some (.bool false) := HT5.out.r.cell 1
      have r2 : W5.cell? ⟨w.heap.size + 1 + 1 + 1, 2, none⟩ = some (.string ⟨#[]⟩) := HT5.out.r.cell 2
      have r3 : W5.cell? ⟨w.heap.size + 1 + 1 + 1, 3, none⟩ = some (.int .i64 0) := HT5.out.r.cell 3
      have r4 : W5.cell? ⟨w.heap.size + 1 + 1 + 1, 4, none⟩ = some (.int .i64 0) := HT5.out.r.cell 4
      have r5 : W5.cell? ⟨w.heap.size + 1 + 1 + 1, 5, none⟩ = some (.string ⟨#[]⟩) := HT5.out.r.cell 5
      have rf := HT5.out.r.froz
      have HQ2 : Hid (Q = .error 5) := HQg
      have HD := HT5.out.done
      clear HQg HTm HPq HPi HT5 HC5 HW2
      go_wp2
      exact bodyPost_ret (v := .tuple #[tsV ⟨0, false, noS, 0, 0, noS⟩, .int .i64 5]) (by simp [results, Tryz.results46, go_sem, r0, r1, r2, r3, r4, r5, tsV, noS]) rfl ⟨NxR.bad _ HQ2.out, HD _ _ _ _ _ _⟩
    | some p =>
      obtain rfl : pi = (p : Int) := by rw [← HPi.out, placeI_at HPq.out]
      have p1 : W5.cell? ⟨w.heap.size, 1, none⟩ = some (.slice po C pc) := HT5.out.p.cell 1
      obtain ⟨hp, Hhp⟩ : ∃ hp, Hid (hasP pl p = hp) := ⟨_, rfl⟩
      have HCf : Hid (Calls Tryz.prog 84 #[.slice po C pc, .func (.func 85) #[] #[.pointer (some ⟨BX, 0, none⟩)]] W5 fun e w' => e = .returned (.bool hp) ∧ Below W5.heap.size W5 w') := by
        rw [← Hhp.out]; exact hasts_any pl C po pc BX p W5 HC.out (by omega) (HTs.out.next HT5.out.bel) (HC5.out.cell 0)
      go_wp2_with fail
      refine HCf.out.mono ?_
      rintro e w6 ⟨rfl, hb6⟩
      have HT6 : Hid (NxW w w6 pt po C pc K A I Y (some ⟨b2, o2, none⟩) 2 cap tn to N tc) := HT5.out.next hb6
      have HC6 : Hid (Bx w6 BX #[.int .i64 (p : Int)]) := HC5.out.next hb6
      have HB16 : Hid (Below w1.heap.size w1 w6) := next_trans HB15.out hb6
      have hl6 : w.heap.size + 1 + 1 + 1 < w6.heap.size := HT6.out.r.lt
      clear hb6 p1 HT5 HC5 HCf HB15
      cases hp with
      | true =>
        have r0 : w6.cell? ⟨w.heap.size + 1 + 1 + 1, 0, none⟩ = some (.int .i64 0) := HT6.out.r.cell 0
        have r1 : w6.cell? ⟨w.heap.size + 1 + 1 + 1, 1, none⟩ = some (.bool false) := HT6.out.r.cell 1
        have r2 : w6.cell? ⟨w.heap.size + 1 + 1 + 1, 2, none⟩ = some (.string ⟨#[]⟩) := HT6.out.r.cell 2
        have r3 : w6.cell? ⟨w.heap.size + 1 + 1 + 1, 3, none⟩ = some (.int .i64 0) := HT6.out.r.cell 3
        have r4 : w6.cell? ⟨w.heap.size + 1 + 1 + 1, 4, none⟩ = some (.int .i64 0) := HT6.out.r.cell 4
        have r5 : w6.cell? ⟨w.heap.size + 1 + 1 + 1, 5, none⟩ = some (.string ⟨#[]⟩) := HT6.out.r.cell 5
        have rf := HT6.out.r.froz
        have HQ2 : Hid (Q = .error 6) := by rw [Hid, HQg.out]; simp only [Hhp.out, if_true]
        have HD := HT6.out.done
        clear HQg HTm HPq HPi HT6 HC6 HW2 Hhp
        go_wp2
        exact bodyPost_ret (v := .tuple #[tsV ⟨0, false, noS, 0, 0, noS⟩, .int .i64 6]) (by simp [results, Tryz.results46, go_sem, r0, r1, r2, r3, r4, r5, tsV, noS]) rfl ⟨NxR.bad _ HQ2.out, HD _ _ _ _ _ _⟩
      | false =>
        have HQ2 : Hid (Q = match termN y with
          | none => .error 2
          | some t => .ok (atTs p t)) := by rw [Hid, HQg.out]; simp only [Hhp.out, Bool.false_eq_true, if_false]
        have n4 : w6.cell? ⟨w.heap.size + 1, 4, none⟩ = some (.slice (some ⟨b2, o2, none⟩) 2 cap) := HT6.out.n.cell 4
        obtain ⟨c0, c1, c2, c3, c4⟩ := HW2.out.next HB16.out
        clear HQg HPq HPi Hhp
        go_wp2_with fail
        refine (HTm.out w6 HB16.out).mono ?_
        rintro e w7 ⟨⟨⟨tp, tnn, tv, tk, ti, ts⟩, rfl, ht⟩, hb7⟩
        obtain ⟨q, Hq⟩ : ∃ q, Hid (termN y = q) := ⟨_, rfl⟩
        rw [Hq.out] at ht HQ2 ⊢
        have HTq : Hid (∀ t', q = some t' → (⟨tp, tnn, tv, tk, ti, ts⟩ : Ts) = t') := ht
        unfold tsV
        simp only
        have HT7 : Hid (NxW w w7 pt po C pc K A I Y (some ⟨b2, o2, none⟩) 2 cap tn to N tc) := HT6.out.next hb7
        have s0 : w7.cell? ⟨BX, 0, none⟩ = some (.int .i64 (p : Int)) := (HC6.out.next hb7).cell 0
        have hlb : BX < w7.heap.size := (HC6.out.next hb7).lt
        have hl7 : w.heap.size + 1 + 1 + 1 < w7.heap.size := HT7.out.r.lt
        have r0 : w7.cell? ⟨w.heap.size + 1 + 1 + 1, 0, none⟩ = some (.int .i64 0) := HT7.out.r.cell 0
        have r1 : w7.cell? ⟨w.heap.size + 1 + 1 + 1, 1, none⟩ = some (.bool false) := HT7.out.r.cell 1
        have r2 : w7.cell? ⟨w.heap.size + 1 + 1 + 1, 2, none⟩ = some (.string ⟨#[]⟩) := HT7.out.r.cell 2
        have r3 : w7.cell? ⟨w.heap.size + 1 + 1 + 1, 3, none⟩ = some (.int .i64 0) := HT7.out.r.cell 3
        have r4 : w7.cell? ⟨w.heap.size + 1 + 1 + 1, 4, none⟩ = some (.int .i64 0) := HT7.out.r.cell 4
        have r5 : w7.cell? ⟨w.heap.size + 1 + 1 + 1, 5, none⟩ = some (.string ⟨#[]⟩) := HT7.out.r.cell 5
        have rf := HT7.out.r.froz
        have HD := bel6a (b := w.heap.size + 1 + 1 + 1) HT7.out.bel (by omega) (by omega)
        clear ht hb7 HT6 HT7 HC6 HB16 HTm HW2 Hq n4 c0 c1 c2 c3 c4
        cases q with
        | none =>
          have HQ3 : Hid (Q = .error 2) := HQ2
          clear HQ2
          go_wp2
          exact bodyPost_ret (v := .tuple #[tsV ⟨0, false, noS, 0, 0, noS⟩, .int .i64 2]) (by simp [results, Tryz.results46, go_sem, r0, r1, r2, r3, r4, r5, hl7, tsV, noS]) rfl ⟨NxR.bad _ HQ3.out, HD _ _ _ _ _ _ _⟩
        | some t' =>
          have e := HTq.out t' rfl
          subst e
          have HQ3 : Hid (Q = .ok ⟨p, tnn, tv, tk, ti, ts⟩) := HQ2
          clear HQ2 HTq
          go_wp2
          exact bodyPost_ret (v := .tuple #[tsV ⟨p, tnn, tv, tk, ti, ts⟩, .int .i64 0]) (by simp [results, Tryz.results46, go_sem, r0, r1, r2, r3, r4, r5, hl7, tsV]) rfl ⟨NxR.good HQ3.out, HD _ _ _ _ _ _ _⟩
  · obtain ⟨W5, HW5⟩ : ∃ W5, Hid (w3.setCell ⟨w1.heap.size, 0, none⟩ (.int .i64 pi) = W5) := ⟨_, rfl⟩
    obtain ⟨BX, HBX⟩ : ∃ BX, Hid (w1.heap.size = BX) := ⟨_, rfl⟩
    have HB15 : Hid (Below w1.heap.size w1 W5) := by rw [← HW5.out]; exact set_bel hb3 (Nat.le_refl _)
    have HX5 : Hid (Bx W5 BX #[.int .i64 pi]) := by rw [← HW5.out, ← HBX.out]; exact bx.set 0 _
    have HT5 : Hid (NxW w W5 pt po C pc K A I Y (some ⟨b2, o2, none⟩) 2 cap tn to N tc) := HT1.out.next HB15.out
    rw [HW5.out, HBX.out]
    go_split_ands
    clear hb hBf hb3 bx bx0 bxf q0 q1 q2 q3 t0 t1 n4 c0 c1 c2 c3 c4 HSt HT1 HB1 hl1 hne1 hne2 hne3 HW5
    have hl5 : w.heap.size + 1 + 1 + 1 < W5.heap.size := HT5.out.r.lt
    have HC5 : Hid (Bx W5 BX #[.int .i64 pi]) := HX5
    clear HX5
    cases pq with
    | none =>
      have r0 : W5.cell? ⟨w.heap.size + 1 + 1 + 1, 0, none⟩ = some (.int .i64 0) := HT5.out.r.cell 0
      have r1 : W5.cell? ⟨w.heap.size + 1 + 1 + 1, 1, none⟩ = some (.bool false) := HT5.out.r.cell 1
      have r2 : W5.cell? ⟨w.heap.size + 1 + 1 + 1, 2, none⟩ = some (.string ⟨#[]⟩) := HT5.out.r.cell 2
      have r3 : W5.cell? ⟨w.heap.size + 1 + 1 + 1, 3, none⟩ = some (.int .i64 0) := HT5.out.r.cell 3
      have r4 : W5.cell? ⟨w.heap.size + 1 + 1 + 1, 4, none⟩ = some (.int .i64 0) := HT5.out.r.cell 4
      have r5 : W5.cell? ⟨w.heap.size + 1 + 1 + 1, 5, none⟩ = some (.string ⟨#[]⟩) := HT5.out.r.cell 5
      have rf := HT5.out.r.froz
      have HQ2 : Hid (Q = .error 5) := HQg
      have HD := HT5.out.done
      clear HQg HTm HPq HPi HT5 HC5 HW2
      go_wp2
      exact bodyPost_ret (v := .tuple #[tsV ⟨0, false, noS, 0, 0, noS⟩, .int .i64 5]) (by simp [results, Tryz.results46, go_sem, r0, r1, r2, r3, r4, r5, tsV, noS]) rfl ⟨NxR.bad _ HQ2.out, HD _ _ _ _ _ _⟩
    | some p =>
      obtain rfl : pi = (p : Int) := by rw [← HPi.out, placeI_at HPq.out]
      have p1 : W5.cell? ⟨w.heap.size, 1, none⟩ = some (.slice po C pc) := HT5.out.p.cell 1
      obtain ⟨hp, Hhp⟩ : ∃ hp, Hid (hasP pl p = hp) := ⟨_, rfl⟩
      have HCf : Hid (Calls Tryz.prog 84 #[.slice po C pc, .func (.func 85) #[] #[.pointer (some ⟨BX, 0, none⟩)]] W5 fun e w' => e = .returned (.bool hp) ∧ Below W5.heap.size W5 w') := by
        rw [← Hhp.out]; exact hasts_any pl C po pc BX p W5 HC.out (by omega) (HTs.out.next HT5.out.bel) (HC5.out.cell 0)
      go_wp2_with fail
      refine HCf.out.mono ?_
      rintro e w6 ⟨rfl, hb6⟩
      have HT6 : Hid (NxW w w6 pt po C pc K A I Y (some ⟨b2, o2, none⟩) 2 cap tn to N tc) := HT5.out.next hb6
      have HC6 : Hid (Bx w6 BX #[.int .i64 (p : Int)]) := HC5.out.next hb6
      have HB16 : Hid (Below w1.heap.size w1 w6) := next_trans HB15.out hb6
      have hl6 : w.heap.size + 1 + 1 + 1 < w6.heap.size := HT6.out.r.lt
      clear hb6 p1 HT5 HC5 HCf HB15
      cases hp with
      | true =>
        have r0 : w6.cell? ⟨w.heap.size + 1 + 1 + 1, 0, none⟩ = some (.int .i64 0) := HT6.out.r.cell 0
        have r1 : w6.cell? ⟨w.heap.size + 1 + 1 + 1, 1, none⟩ = some (.bool false) := HT6.out.r.cell 1
        have r2 : w6.cell? ⟨w.heap.size + 1 + 1 + 1, 2, none⟩ = some (.string ⟨#[]⟩) := HT6.out.r.cell 2
        have r3 : w6.cell? ⟨w.heap.size + 1 + 1 + 1, 3, none⟩ = some (.int .i64 0) := HT6.out.r.cell 3
        have r4 : w6.cell? ⟨w.heap.size + 1 + 1 + 1, 4, none⟩ = some (.int .i64 0) := HT6.out.r.cell 4
        have r5 : w6.cell? ⟨w.heap.size + 1 + 1 + 1, 5, none⟩ = some (.string ⟨#[]⟩) := HT6.out.r.cell 5
        have rf := HT6.out.r.froz
        have HQ2 : Hid (Q = .error 6) := by rw [Hid, HQg.out]; simp only [Hhp.out, if_true]
        have HD := HT6.out.done
        clear HQg HTm HPq HPi HT6 HC6 HW2 Hhp
        go_wp2
        exact bodyPost_ret (v := .tuple #[tsV ⟨0, false, noS, 0, 0, noS⟩, .int .i64 6]) (by simp [results, Tryz.results46, go_sem, r0, r1, r2, r3, r4, r5, tsV, noS]) rfl ⟨NxR.bad _ HQ2.out, HD _ _ _ _ _ _⟩
      | false =>
        have HQ2 : Hid (Q = match termN y with
          | none => .error 2
          | some t => .ok (atTs p t)) := by rw [Hid, HQg.out]; simp only [Hhp.out, Bool.false_eq_true, if_false]
        have n4 : w6.cell? ⟨w.heap.size + 1, 4, none⟩ = some (.slice (some ⟨b2, o2, none⟩) 2 cap) := HT6.out.n.cell 4
        obtain ⟨c0, c1, c2, c3, c4⟩ := HW2.out.next HB16.out
        clear HQg HPq HPi Hhp
        go_wp2_with fail
        refine (HTm.out w6 HB16.out).mono ?_
        rintro e w7 ⟨⟨⟨tp, tnn, tv, tk, ti, ts⟩, rfl, ht⟩, hb7⟩
        obtain ⟨q, Hq⟩ : ∃ q, Hid (termN y = q) := ⟨_, rfl⟩
        rw [Hq.out] at ht HQ2 ⊢
        have HTq : Hid (∀ t', q = some t' → (⟨tp, tnn, tv, tk, ti, ts⟩ : Ts) = t') := ht
        unfold tsV
        simp only
        have HT7 : Hid (NxW w w7 pt po C pc K A I Y (some ⟨b2, o2, none⟩) 2 cap tn to N tc) := HT6.out.next hb7
        have s0 : w7.cell? ⟨BX, 0, none⟩ = some (.int .i64 (p : Int)) := (HC6.out.next hb7).cell 0
        have hlb : BX < w7.heap.size := (HC6.out.next hb7).lt
        have hl7 : w.heap.size + 1 + 1 + 1 < w7.heap.size := HT7.out.r.lt
        have r0 : w7.cell? ⟨w.heap.size + 1 + 1 + 1, 0, none⟩ = some (.int .i64 0) := HT7.out.r.cell 0
        have r1 : w7.cell? ⟨w.heap.size + 1 + 1 + 1, 1, none⟩ = some (.bool false) := HT7.out.r.cell 1
        have r2 : w7.cell? ⟨w.heap.size + 1 + 1 + 1, 2, none⟩ = some (.string ⟨#[]⟩) := HT7.out.r.cell 2
        have r3 : w7.cell? ⟨w.heap.size + 1 + 1 + 1, 3, none⟩ = some (.int .i64 0) := HT7.out.r.cell 3
        have r4 : w7.cell? ⟨w.heap.size + 1 + 1 + 1, 4, none⟩ = some (.int .i64 0) := HT7.out.r.cell 4
        have r5 : w7.cell? ⟨w.heap.size + 1 + 1 + 1, 5, none⟩ = some (.string ⟨#[]⟩) := HT7.out.r.cell 5
        have rf := HT7.out.r.froz
        have HD := bel6a (b := w.heap.size + 1 + 1 + 1) HT7.out.bel (by omega) (by omega)
        clear ht hb7 HT6 HT7 HC6 HB16 HTm HW2 Hq n4 c0 c1 c2 c3 c4
        cases q with
        | none =>
          have HQ3 : Hid (Q = .error 2) := HQ2
          clear HQ2
          go_wp2
          exact bodyPost_ret (v := .tuple #[tsV ⟨0, false, noS, 0, 0, noS⟩, .int .i64 2]) (by simp [results, Tryz.results46, go_sem, r0, r1, r2, r3, r4, r5, hl7, tsV, noS]) rfl ⟨NxR.bad _ HQ3.out, HD _ _ _ _ _ _ _⟩
        | some t' =>
          have e := HTq.out t' rfl
          subst e
          have HQ3 : Hid (Q = .ok ⟨p, tnn, tv, tk, ti, ts⟩) := HQ2
          clear HQ2 HTq
          go_wp2
          exact bodyPost_ret (v := .tuple #[tsV ⟨p, tnn, tv, tk, ti, ts⟩, .int .i64 0]) (by simp [results, Tryz.results46, go_sem, r0, r1, r2, r3, r4, r5, hl7, tsV]) rfl ⟨NxR.good HQ3.out, HD _ _ _ _ _ _ _⟩
end Go.Proofs.YtnhbjhdkpbhioaaGreatDoor
