import Derived.Test.YtnhbjhdkpbhioaaGreatDoorPtParse
import Derived.Test.YtnhbjhdkpbhioaaGreatDoorH1
import Derived.Test.YtnhbjhdkpbhioaaGreatDoorG25
import Derived.Deep.RegionHeld3
import Derived.Deep.AppendLies
namespace Go.Proofs.YtnhbjhdkpbhioaaGreatDoor
open Go.RowKit
def pickT (p : Nat) : Option Ts → Except Int Ts
  | none => .error 2
  | some t => .ok (atTs p t)
structure PrR (L : List Tp) (x : Nd) (w w' : World) (e : Ending) : Prop where
  bel : Below w.heap.size w w'
  res : (∃ p ao cap, parP L x = .ok p ∧ e = .returned (.tuple #[ptV p ao cap, .agg #[.slice none 0 0, .int .i64 0]]) ∧ IsTss w' ao p.l) ∨
    (∃ (a : Nat) (f : Int) (b : Nat), parP L x = .error (a, f) ∧ e = .returned (.tuple #[.agg #[.string ⟨#[]⟩, .slice none 0 0], .agg #[.slice (some ⟨b, 0, none⟩) 1 1, .int .i64 f]]) ∧ PtAt w' b (a : Int))
theorem pr_bad {L : List Tp} {x : Nd} {w w3 : World} {a : Nat} {f : Int} {b : Nat} {u0 u1 u2 u3 : Value} (he : parP L x = .error (a, f)) (hB : Below w.heap.size w w3) (hb : w.heap.size + 2 < b) (hp : PtAt w3 b (a : Int)) :
    PrR L x w ((((w3.setCell ⟨w.heap.size + 1, 0, none⟩ u0).setCell ⟨w.heap.size + 1, 1, none⟩ u1).setCell ⟨w.heap.size + 2, 0, none⟩ u2).setCell ⟨w.heap.size + 2, 1, none⟩ u3) (.returned (.tuple #[.agg #[.string ⟨#[]⟩, .slice none 0 0], .agg #[.slice (some ⟨b, 0, none⟩) 1 1, .int .i64 f]])) :=
  ⟨set_bel (set_bel (set_bel (set_bel hB (by omega)) (by omega)) (by omega)) (by omega), .inr ⟨a, f, b, he, rfl, (((hp.set (by omega)).set (by omega)).set (by omega)).set (by omega)⟩⟩
structure RqW (w wr : World) (K A I : Int) (Y : ByteArray) (ao : Option Addr) (M cap : Nat) : Prop where
  bel : Below w.heap.size w wr
  n : Bx wr w.heap.size #[.int .i64 K, .int .i64 A, .int .i64 I, .string Y, .slice ao M cap]
  r : Bx wr (w.heap.size + 1) #[.string ⟨#[]⟩, .slice none 0 0]
  g : Bx wr (w.heap.size + 2) #[.slice none 0 0, .int .i64 0]
theorem RqW.next {w wr w' : World} {K A I : Int} {Y : ByteArray} {ao : Option Addr} {M cap : Nat} (h : RqW w wr K A I Y ao M cap) (hb : Below wr.heap.size wr w') : RqW w w' K A I Y ao M cap :=
  ⟨next_trans h.bel hb, h.n.next hb, h.r.next hb, h.g.next hb⟩
structure RpW (w wr : World) (K A I : Int) (Y : ByteArray) (ao : Option Addr) (M cap TB : Nat) (tn : ByteArray) (v : Value) (acc : List Ts) : Prop where
  q : RqW w wr K A I Y ao M cap
  p : Bx wr TB #[.string tn, v]
  own : wr.ownsRow (TB + 1) 125 6 v acc.length (tsC acc)
  lt : w.heap.size + 2 < TB
theorem RpW.next {w wr w' : World} {K A I : Int} {Y : ByteArray} {ao : Option Addr} {M cap TB : Nat} {tn : ByteArray} {v : Value} {acc : List Ts} (h : RpW w wr K A I Y ao M cap TB tn v acc) (hb : Below wr.heap.size wr w') : RpW w w' K A I Y ao M cap TB tn v acc :=
  ⟨h.q.next hb, h.p.next hb, own_next h.own hb, h.lt⟩
theorem headN_no {x : Nd} (h : hasH x = false) : headN x = [] := by
  obtain ⟨k, a, i, s, l⟩ := x
  unfold hasH headO at h
  unfold headN
  simp only at h ⊢
  by_cases hk : k = 0
  · rw [if_pos hk] at h ⊢
    match l, h with
    | [], _ => rfl
    | y :: r, h =>
      simp only at h ⊢
      by_cases hy : y.k = 2
      · rw [if_pos hy] at h; cases h
      · rw [if_neg hy]
  · rw [if_neg hk]
theorem headN_yes {x : Nd} {s : List UInt8} (h : headO x = some s) : headN x = s := by
  obtain ⟨k, a, i, t, l⟩ := x
  unfold headO at h
  unfold headN
  simp only at h ⊢
  by_cases hk : k = 0
  · rw [if_pos hk] at h ⊢
    match l, h with
    | [], h => cases h
    | y :: r, h =>
      simp only at h ⊢
      by_cases hy : y.k = 2
      · rw [if_pos hy] at h ⊢; injection h
      · rw [if_neg hy] at h; cases h
  · rw [if_neg hk] at h; cases h
theorem wfN_list {x : Nd} (h : WfN x) (y : Nd) (hy : y ∈ x.l) : WfN y := by
  obtain ⟨k, a, i, s, l⟩ := x
  rw [WfN_mk] at h
  rcases h with ⟨_, _, _, h⟩ | ⟨_, _, _, k', a', i', s', h1, h2⟩ | ⟨_, h⟩
  · exact WfL_mem h y hy
  · simp only at hy
    rw [h1] at hy
    obtain rfl := List.mem_singleton.1 hy
    rw [WfN_mk]
    exact .inr (.inr ⟨h2, rfl⟩)
  · simp only at hy
    rw [h] at hy
    cases hy
theorem head_ne {x : Nd} {s : List UInt8} (hw : WfN x) (h : headO x = some s) : s ≠ [] := by
  obtain ⟨m, r, hl, hm, h2⟩ := hasH_get (x := x) (by unfold hasH; rw [h]; rfl)
  rw [h] at h2
  injection h2 with h2
  subst h2
  have hwm := wfN_list hw m (by rw [hl]; simp)
  obtain ⟨k, a, i, s, l⟩ := m
  simp only at hm
  subst hm
  rw [WfN_mk] at hwm
  rcases hwm with ⟨h, _⟩ | ⟨h, _⟩ | ⟨⟨h, _⟩, _⟩
  · cases h
  · cases h
  · rcases h with h | h | h | h | h
    · exact absurd h.1 (by decide)
    · intro e; simp only at e; have := h.2.2.1; rw [e] at this; exact absurd this (by decide)
    · exact absurd h.1 (by decide)
    · rcases h.1 with h | h | h <;> exact absurd h (by decide)
    · rcases h.1 with h | h <;> exact absurd h (by decide)
theorem hasP_step {acc : List Ts} {j p : Nat} {t : Ts} (h : acc[j]? = some t) : hasP (acc.take (j + 1)) p = (hasP (acc.take j) p || decide (t.p = p)) := by
  obtain ⟨hj, e⟩ := List.getElem?_eq_some_iff.1 h
  unfold hasP
  rw [List.take_succ_eq_append_getElem hj, e, List.any_append]
  simp
set_option linter.unusedSimpArgs false in
set_option maxHeartbeats 16000000 in
set_option maxRecDepth 8000 in
theorem rpparse_any (L : List Tp) (LN : Nat) (lo : Option Addr) (lc : Nat) (x : Nd) (ao : Option Addr) (cap : Nat) (w : World) (hwf : WfN x) (hLN : L.length = LN) (hL : LN ≤ 1000) (hT : ∀ t ∈ L, t.l.length ≤ 1000) (ht : IsTps w lo L) (hb : cntN x ≤ 100000) (hc : x.l.length ≤ cap) (hk : IsNds w anyB ao x.l) :
    Calls Tryz.prog 13 #[ndV x ao cap, .slice lo LN lc] w fun e w' => PrR L x w w' e := by
  have hcl : x.l.length ≤ 100000 := by have h1 := cntL_len x.l; unfold cntN at hb; omega
  have HKid : Hid (∀ y ∈ x.l, cntN y ≤ 100000 ∧ WfN y) := fun y hy => ⟨by have h1 := cntL_mem x.l y hy; unfold cntN at hb; omega, wfN_list hwf y hy⟩
  have HWf : Hid (WfN x) := hwf
  obtain ⟨X, HX⟩ : ∃ X, Hid (baL (headN x) = X) := ⟨_, rfl⟩
  have HHd : Hid (∀ w', Below w.heap.size w w' → Calls Tryz.prog 47 #[ndV x ao cap] w' fun e w2 => e = .returned (.string X) ∧ Below w'.heap.size w' w2) := by
    rw [← HX.out]; exact fun w' h => rhead_any x ao cap w' (by omega) hc (hk.next h)
  have HFi : Hid (∀ w', Below w.heap.size w w' → Calls Tryz.prog 48 #[.slice lo LN lc, .string X] w' fun e w2 => e = .returned (.int .i64 (plI L X)) ∧ Below w'.heap.size w' w2) := fun w' h => rtfind_any L LN lo lc X w' hLN hL (ht.next h)
  have HTps : Hid (IsTps w lo L) := ht
  have HLN : Hid (L.length = LN) := hLN
  have HTs : Hid (∀ t ∈ L, t.l.length ≤ 1000) := hT
  obtain ⟨K, A, I, Y, M, H, Hx⟩ := nd_open x ao cap
  have hML := Hx.out.2.2.2.2
  rw [hML] at hcl hc
  have HK : Hid (IsNds w anyB ao x.l) := hk
  rw [H.out] at HHd ⊢
  have HAx : Hid ((x.a : Int) = A) := Hx.out.2.1
  have HMx : Hid (x.l.length = M) := hML
  have HAt : Hid (∀ (a f : Int) (W : World), Calls Tryz.prog 39 #[.string ⟨#[99, 104, 97, 114]⟩, .int .i64 a, .int .i64 f] W fun e w' => (∃ b, e = .returned (.agg #[.slice (some ⟨b, 0, none⟩) 1 1, .int .i64 f]) ∧ W.heap.size ≤ b ∧ PtAt w' b a) ∧ Below W.heap.size W w') := wat_ex
  obtain ⟨W, HWe⟩ : ∃ W, Hid (((w.alloc (.cells #[.int .i64 K, .int .i64 A, .int .i64 I, .string Y, .slice ao M cap] 46)).alloc (.cells #[.string ⟨#[]⟩, .slice none 0 0] 49)).alloc (.cells #[.slice none 0 0, .int .i64 0] 27) = W) := ⟨_, rfl⟩
  have HQW : Hid (RqW w W K A I Y ao M cap) := by
    refine ⟨?_, ?_, ?_, ?_⟩
    · rw [← HWe.out]; exact next_trans (next_trans (alloc_below _ _) (alloc_below _ _)) (alloc_below _ _)
    · rw [← HWe.out]; exact ((Bx.made _ _ _).alloc _).alloc _
    · rw [← HWe.out]; exact (Bx.made' rfl (by simp)).alloc _
    · exact Bx.made' HWe.out (by simp)
  clear hk hML hb Hx H hLN ht hT hwf
  go_enter Tryz.func13, Tryz.ntmps13
  go_wp2_with fail
  rw [HWe.out]
  clear HWe
  refine (HHd.out W HQW.out.bel).mono ?_
  rintro e w1 ⟨rfl, hb1⟩
  have HQ1 : Hid (RqW w w1 K A I Y ao M cap) := HQW.out.next hb1
  have hlt : w.heap.size + 2 < w1.heap.size := HQ1.out.g.lt
  clear hb1 HHd HQW
  have n1 : w1.cell? ⟨w.heap.size, 1, none⟩ = some (.int .i64 A) := HQ1.out.n.cell 1
  cases hhx : hasH x with
  | false =>
    have HE : Hid (parP L x = .error (x.a, 2)) := parP_head hhx
    have hX0 : X = noS := by rw [← HX.out, headN_no hhx]; rfl
    have hd := isE_yes hX0
    clear HK HKid hhx hX0 HFi HTps
    go_wp2_with fail
    refine (HAt.out A 2 _).mono ?_
    rintro e w9 ⟨⟨bq, rfl, hbq, hpq⟩, hb9⟩
    have HT9 : Hid (RqW w w9 K A I Y ao M cap) := HQ1.out.next hb9
    have r0 : w9.cell? ⟨w.heap.size + 1, 0, none⟩ = some (.string ⟨#[]⟩) := HT9.out.r.cell 0
    have r1 : w9.cell? ⟨w.heap.size + 1, 1, none⟩ = some (.slice none 0 0) := HT9.out.r.cell 1
    have rf := HT9.out.r.froz
    have g0 : w9.cell? ⟨w.heap.size + 2, 0, none⟩ = some (.slice none 0 0) := HT9.out.g.cell 0
    have g1 : w9.cell? ⟨w.heap.size + 2, 1, none⟩ = some (.int .i64 0) := HT9.out.g.cell 1
    have gf := HT9.out.g.froz
    have HB9 : Hid (Below w.heap.size w w9) := HT9.out.bel
    have HPq : Hid (PtAt w9 bq ((x.a : Nat) : Int)) := by rw [HAx.out]; exact hpq
    have hbq2 : w.heap.size + 2 < bq := by omega
    clear HT9 hb9 hpq hbq
    go_wp2
    refine bodyPost_ret (v := .tuple #[.agg #[.string ⟨#[]⟩, .slice none 0 0], .agg #[.slice (some ⟨bq, 0, none⟩) 1 1, .int .i64 2]]) (by simp [results, Tryz.results13, go_sem, r0, r1, g0, g1]) rfl ?_
    exact pr_bad HE.out HB9.out hbq2 HPq.out
  | true =>
    obtain ⟨m, r, hl, hmk, hho⟩ := hasH_get hhx
    have HHo : Hid (headO x = some m.s) := hho
    have HXm : Hid (baL m.s = X) := by rw [Hid, ← HX.out, headN_yes hho]
    have hXn : X ≠ noS := by rw [← HXm.out]; exact baL_no (head_ne HWf.out hho)
    have hd := isE_no hXn
    have hM1 : 1 ≤ M := by rw [← HMx.out, hl, List.length_cons]; omega
    clear hl hmk hho hhx hXn
    go_wp2_with fail
    refine (HFi.out w1 HQ1.out.bel).mono ?_
    rintro e w2 ⟨rfl, hb2⟩
    have HQ2 : Hid (RqW w w2 K A I Y ao M cap) := HQ1.out.next hb2
    have n1 : w2.cell? ⟨w.heap.size, 1, none⟩ = some (.int .i64 A) := HQ2.out.n.cell 1
    have hlt2 : w.heap.size + 2 < w2.heap.size := HQ2.out.g.lt
    clear hb2 HFi HQ1 hlt
    obtain ⟨pq, Hpq⟩ : ∃ pq, Hid (plT L X = pq) := ⟨_, rfl⟩
    cases pq with
    | none =>
      have HE : Hid (parP L x = .error (x.a, 5)) := parP_name HHo.out (by rw [HXm.out]; exact Hpq.out)
      rw [plI_no Hpq.out]
      clear HK HKid HTps Hpq HXm HHo
      go_wp2_with fail
      refine (HAt.out A 5 _).mono ?_
      rintro e w9 ⟨⟨bq, rfl, hbq, hpq⟩, hb9⟩
      have HT9 : Hid (RqW w w9 K A I Y ao M cap) := HQ2.out.next hb9
      have r0 : w9.cell? ⟨w.heap.size + 1, 0, none⟩ = some (.string ⟨#[]⟩) := HT9.out.r.cell 0
      have r1 : w9.cell? ⟨w.heap.size + 1, 1, none⟩ = some (.slice none 0 0) := HT9.out.r.cell 1
      have rf := HT9.out.r.froz
      have g0 : w9.cell? ⟨w.heap.size + 2, 0, none⟩ = some (.slice none 0 0) := HT9.out.g.cell 0
      have g1 : w9.cell? ⟨w.heap.size + 2, 1, none⟩ = some (.int .i64 0) := HT9.out.g.cell 1
      have gf := HT9.out.g.froz
      have HB9 : Hid (Below w.heap.size w w9) := HT9.out.bel
      have HPq : Hid (PtAt w9 bq ((x.a : Nat) : Int)) := by rw [HAx.out]; exact hpq
      have hbq2 : w.heap.size + 2 < bq := by omega
      clear HT9 hb9 hpq hbq
      go_wp2
      refine bodyPost_ret (v := .tuple #[.agg #[.string ⟨#[]⟩, .slice none 0 0], .agg #[.slice (some ⟨bq, 0, none⟩) 1 1, .int .i64 5]]) (by simp [results, Tryz.results13, go_sem, r0, r1, g0, g1]) rfl ?_
      exact pr_bad HE.out HB9.out hbq2 HPq.out
    | some q =>
      rw [plI_at Hpq.out]
      have hq0 : ¬ (q : Int) < 0 := by omega
      obtain ⟨T, hT1, hT2, _⟩ := plT_some L X q Hpq.out
      obtain ⟨lb, lf, to, tc, rfl, d0, d1, hsl⟩ := HTps.out q T hT1
      have hlbw : lb < w.heap.size := World.block_lt_of_cell? w _ d0
      have hT16 := HTs.out T (List.mem_of_getElem? hT1)
      have hTa := tpAt_at Hpq.out hT1
      obtain ⟨tn, tl⟩ := T
      simp only at hT2 d0 d1 hsl hT16
      subst hT2
      obtain ⟨N, HN⟩ : ∃ N, Hid (tl.length = N) := ⟨_, rfl⟩
      have HRow : Hid (∀ w', Below w.heap.size w w' → w'.cell? ⟨lb, lf + q * 2, none⟩ = some (.string tn) ∧ w'.cell? ⟨lb, lf + q * 2 + 1, none⟩ = some (.slice to N tc)) := fun w' h => by rw [← HN.out]; exact ⟨keep_cell h d0, keep_cell h d1⟩
      have HSlt : Hid (∀ w' Z, Below w.heap.size w w' → Calls Tryz.prog 49 #[.agg #[.string tn, .slice to N tc], .string Z] w' fun e w2 => e = .returned (.int .i64 (rplaceI tl Z)) ∧ Below w'.heap.size w' w2) := by
        intro w' Z h
        have := rtslot_any ⟨tn, tl⟩ to tc Z w' hT16 (hsl.next h)
        unfold tmV at this
        simp only at this
        rw [HN.out] at this
        exact this
      have hqn : q < LN := by rw [← HLN.out]; exact (List.getElem?_eq_some_iff.1 hT1).1
      have HP : Hid (parP L x = match runP tl [] (x.l.drop 1) with
        | .ok l => .ok ⟨tn, l⟩
        | .error p => .error p) := by
        have h1 := parP_go (L := L) (x := x) HHo.out (by rw [HXm.out]; exact Hpq.out)
        rw [HXm.out, hTa] at h1
        exact h1
      have hqi : (q : Int) < (LN : Int) := by omega
      have hq1 : (0 : Int) ≤ (q : Int) := by omega
      obtain ⟨TB, HTB⟩ : ∃ TB, Hid (w2.heap.size = TB) := ⟨_, rfl⟩
      obtain ⟨W4, HW4⟩ : ∃ W4, Hid (w2.alloc (.cells #[.string tn, .slice none 0 0] 49) = W4) := ⟨_, rfl⟩
      have HT0 : Hid (RpW w W4 K A I Y ao M cap TB tn (.slice none 0 0) []) := by
        rw [Hid, ← HW4.out, ← HTB.out]
        exact ⟨HQ2.out.next (alloc_below _ _), Bx.made _ _ _, World.ownsRow_nil _ _ _ _, hlt2⟩
      clear hT1 hTa hsl d0 d1 hT16 HTps HTs Hpq HXm HHo HX HWf HQ2 n1 HAx
      go_wp2
      rw [HW4.out, HTB.out]
      clear HW4 HTB
      go_loopw [9] (fun q9 wr => ∃ (i : Nat) (acc : List Ts) (v : Value), 1 ≤ i ∧ i ≤ M ∧ q9 = .int .i64 i ∧ Hid (RpW w wr K A I Y ao M cap TB tn v acc) ∧ Hid (acc.length + 1 = i) ∧ Hid (runP tl acc (x.l.drop i) = runP tl [] (x.l.drop 1))) (fun q9 _ => M - (intOf q9).toNat)
      case atStart => exact ⟨1, [], _, Nat.le_refl _, hM1, rfl, HT0, rfl, rfl⟩
      case round =>
        obtain ⟨i, acc, v, hi1, hiM, rfl, HT, Hak, HRun⟩ := hrel
        clear HT0
        have htb := HT.out.p.lt
        have hlt3 := HT.out.lt
        obtain ⟨po, pc, hv, hsl2, hcap2⟩ := own_tss rfl HT.out.own
        subst hv
        obtain ⟨C, HC⟩ : ∃ C, Hid (acc.length = C) := ⟨_, rfl⟩
        rw [HC.out] at HT hcap2 Hak
        have HIs : Hid (IsTss wr po acc) := hsl2
        have hC1 : C ≤ 100000 := by have := Hak.out; omega
        have n4 : wr.cell? ⟨w.heap.size, 4, none⟩ = some (.slice ao M cap) := HT.out.q.n.cell 4
        by_cases hlt : i < M
        · have hki : (i : Int) < (M : Int) := by omega
          have hk0 : (0 : Int) ≤ (i : Int) := by omega
          obtain ⟨y, hy⟩ := kid_at (l := x.l) (j := i) (by rw [HMx.out]; exact hlt)
          obtain ⟨b2, o2, ya, yc, K2, A2, I2, Y2, M2, rfl, H2, Hy2, hw2, Hk2⟩ := kid_get (HK.out.next HT.out.q.bel) hy
          have hyk := HKid.out y (List.mem_of_getElem? hy)
          have HYk : Hid (x.l[i]? = some y) := hy
          have HYw : Hid (WfN y) := hyk.2
          obtain ⟨E, HE⟩ : ∃ E, Hid (nextR tl acc y = E) := ⟨_, rfl⟩
          obtain ⟨Z, HZ⟩ : ∃ Z, Hid (baL (headN y) = Z) := ⟨_, rfl⟩
          have hM2 : M2 ≤ yc := by rw [← Hy2.out.2.2.2.2]; exact Hk2.out.1
          have HHd : Hid (∀ w', Below wr.heap.size wr w' → Calls Tryz.prog 47 #[.agg #[.int .i64 (K2), .int .i64 (A2), .int .i64 (I2), .string (Y2), .slice ya M2 yc]] w' fun e w2 => e = .returned (.string Z) ∧ Below w'.heap.size w' w2) := by
            intro w' hw
            have h1 := cntL_len y.l
            have h2 := hyk.1
            unfold cntN at h2
            rw [← H2.out, ← HZ.out]
            exact rhead_any y ya yc w' (by omega) Hk2.out.1 (Hk2.out.2.next hw)
          have HA2 : Hid ((y.a : Int) = A2) := Hy2.out.2.1
          have HM2 : Hid (y.l.length = M2) := Hy2.out.2.2.2.2
          have HY2 : Hid (IsNds wr anyB ya y.l) := Hk2.out.2
          have HErr : Hid (∀ f, E = .error f → parP L x = .error (y.a, f)) := by
            intro f hf
            have := HRun.out
            rw [runp_step HYk.out, HE.out, hf] at this
            rw [HP.out, ← this]
          obtain ⟨c0, c1, c2, c3, c4⟩ := hw2
          have hlb2 : b2 < wr.heap.size := World.block_lt_of_cell? wr _ c0
          obtain ⟨BK, HBK⟩ : ∃ BK, Hid (wr.heap.size = BK) := ⟨_, rfl⟩
          obtain ⟨W5, HW5⟩ : ∃ W5, Hid ((wr.alloc (.cells #[.int .i64 K2, .int .i64 A2, .int .i64 I2, .string Y2, .slice ya M2 yc] 46)).alloc (.cells #[.int .i64 0, .bool false, .string ⟨#[]⟩, .int .i64 0, .int .i64 0, .string ⟨#[]⟩] 125) = W5) := ⟨_, rfl⟩
          have HB5 : Hid (Below wr.heap.size wr W5) := by rw [← HW5.out]; exact next_trans (alloc_below _ _) (alloc_below _ _)
          have HK5 : Hid (Bx W5 BK #[.int .i64 K2, .int .i64 A2, .int .i64 I2, .string Y2, .slice ya M2 yc]) := by rw [← HW5.out, ← HBK.out]; exact (Bx.made _ _ _).alloc _
          have HZ5 : Hid (Bx W5 (BK + 1) #[.int .i64 0, .bool false, .string ⟨#[]⟩, .int .i64 0, .int .i64 0, .string ⟨#[]⟩]) := Bx.made' HW5.out (by rw [← HBK.out]; simp)
          clear hy hyk H2 Hy2 Hk2 hsl2 hcap2
          go_wp2_with fail
          rw [HW5.out]
          refine (HHd.out W5 HB5.out).mono ?_
          rintro e w6 ⟨rfl, hb6⟩
          have HB6 : Hid (Below wr.heap.size wr w6) := next_trans HB5.out hb6
          have HK6 : Hid (Bx w6 BK #[.int .i64 K2, .int .i64 A2, .int .i64 I2, .string Y2, .slice ya M2 yc]) := HK5.out.next hb6
          have HZ6 : Hid (Bx w6 (BK + 1) #[.int .i64 0, .bool false, .string ⟨#[]⟩, .int .i64 0, .int .i64 0, .string ⟨#[]⟩]) := HZ5.out.next hb6
          obtain ⟨k0, k1, k2, k3, k4⟩ : w6.cell? ⟨BK, 0, none⟩ = some (.int .i64 K2) ∧ w6.cell? ⟨BK, 1, none⟩ = some (.int .i64 A2) ∧ w6.cell? ⟨BK, 2, none⟩ = some (.int .i64 I2) ∧ w6.cell? ⟨BK, 3, none⟩ = some (.string Y2) ∧ w6.cell? ⟨BK, 4, none⟩ = some (.slice ya M2 yc) := ⟨HK6.out.cell 0, HK6.out.cell 1, HK6.out.cell 2, HK6.out.cell 3, HK6.out.cell 4⟩
          have hbw : w.heap.size + 2 < w6.heap.size := by have := HK6.out.lt; have := HBK.out; omega
          rw [HBK.out]
          clear hb6 HW5 HB5 HK5 HZ5 c0 c1 c2 c3 c4 n4 hlb2
          cases hhy : hasH y with
          | false =>
            have hd : Z.toList.isEmpty = true := isE_yes (by rw [← HZ.out, headN_no hhy]; rfl)
            have HEr : Hid (parP L x = .error (y.a, 2)) := HErr.out 2 (by rw [← HE.out]; exact next_head hhy)
            clear HErr HE HZ HRun hhy HIs
            go_wp2_with fail
            refine (HAt.out A2 2 _).mono ?_
            rintro e w9 ⟨⟨bq, rfl, hbq, hpq⟩, hb9⟩
            have HT9 : Hid (RqW w w9 K A I Y (some ⟨b2, o2, none⟩) M cap) := (HT.out.q.next HB6.out).next hb9
            have r0 : w9.cell? ⟨w.heap.size + 1, 0, none⟩ = some (.string ⟨#[]⟩) := HT9.out.r.cell 0
            have r1 : w9.cell? ⟨w.heap.size + 1, 1, none⟩ = some (.slice none 0 0) := HT9.out.r.cell 1
            have rf := HT9.out.r.froz
            have g0 : w9.cell? ⟨w.heap.size + 2, 0, none⟩ = some (.slice none 0 0) := HT9.out.g.cell 0
            have g1 : w9.cell? ⟨w.heap.size + 2, 1, none⟩ = some (.int .i64 0) := HT9.out.g.cell 1
            have gf := HT9.out.g.froz
            have HB9 : Hid (Below w.heap.size w w9) := HT9.out.bel
            have HPq : Hid (PtAt w9 bq ((y.a : Nat) : Int)) := by rw [HA2.out]; exact hpq
            have hbq2 : w.heap.size + 2 < bq := by omega
            clear HT9 hb9 hpq hbq
            go_wp2
            refine bodyPost_ret (v := .tuple #[.agg #[.string ⟨#[]⟩, .slice none 0 0], .agg #[.slice (some ⟨bq, 0, none⟩) 1 1, .int .i64 2]]) (by simp [results, Tryz.results13, go_sem, r0, r1, g0, g1]) rfl ?_
            exact pr_bad HEr.out HB9.out hbq2 HPq.out
          | true =>
          obtain ⟨m, r, hyl, hmk, hho⟩ := hasH_get hhy
          have hZm : baL m.s = Z := by rw [← HZ.out, headN_yes hho]
          have hd : Z.toList.isEmpty = false := isE_no (by rw [← hZm]; exact baL_no (head_ne HYw.out hho))
          by_cases hm2 : M2 = 2
          case neg =>
            have hd2 : ((M2 : Int) != 2) = true := by simp; omega
            have HEr : Hid (parP L x = .error (y.a, 2)) := HErr.out 2 (by rw [← HE.out]; exact next_len (by rw [HM2.out]; exact hm2))
            clear HErr HE HZ HRun hhy HIs hyl hmk hho hZm hm2
            go_wp2_with fail
            refine (HAt.out A2 2 _).mono ?_
            rintro e w9 ⟨⟨bq, rfl, hbq, hpq⟩, hb9⟩
            have HT9 : Hid (RqW w w9 K A I Y (some ⟨b2, o2, none⟩) M cap) := (HT.out.q.next HB6.out).next hb9
            have r0 : w9.cell? ⟨w.heap.size + 1, 0, none⟩ = some (.string ⟨#[]⟩) := HT9.out.r.cell 0
            have r1 : w9.cell? ⟨w.heap.size + 1, 1, none⟩ = some (.slice none 0 0) := HT9.out.r.cell 1
            have rf := HT9.out.r.froz
            have g0 : w9.cell? ⟨w.heap.size + 2, 0, none⟩ = some (.slice none 0 0) := HT9.out.g.cell 0
            have g1 : w9.cell? ⟨w.heap.size + 2, 1, none⟩ = some (.int .i64 0) := HT9.out.g.cell 1
            have gf := HT9.out.g.froz
            have HB9 : Hid (Below w.heap.size w w9) := HT9.out.bel
            have HPq : Hid (PtAt w9 bq ((y.a : Nat) : Int)) := by rw [HA2.out]; exact hpq
            have hbq2 : w.heap.size + 2 < bq := by omega
            clear HT9 hb9 hpq hbq
            go_wp2
            refine bodyPost_ret (v := .tuple #[.agg #[.string ⟨#[]⟩, .slice none 0 0], .agg #[.slice (some ⟨bq, 0, none⟩) 1 1, .int .i64 2]]) (by simp [results, Tryz.results13, go_sem, r0, r1, g0, g1]) rfl ?_
            exact pr_bad HEr.out HB9.out hbq2 HPq.out
          subst hm2
          obtain ⟨z, hyz⟩ : ∃ z, y.l = [m, z] := by
            have := HM2.out
            rw [hyl] at this ⊢
            match r, this with
            | [z], _ => exact ⟨z, rfl⟩
          have HEq : Hid (E = match placeS tl Z with
            | none => .error 5
            | some p => if hasP acc p = true then .error 6 else pickT p (termN z)) := by rw [Hid, ← HE.out, next_go hho hyz, hZm]; rfl
          have hzk : y.l[1]? = some z := by rw [hyz]; rfl
          have HZw : Hid (WfN z) := wfN_list HYw.out z (by rw [hyz]; simp)
          obtain ⟨P, HPl⟩ : ∃ P, Hid (rplaceI tl Z = P) := ⟨_, rfl⟩
          obtain ⟨r0, r1⟩ := HRow.out w6 (next_trans HT.out.q.bel HB6.out)
          have HSl : Hid (∀ w', Below w.heap.size w w' → Calls Tryz.prog 49 #[.agg #[.string tn, .slice to N tc], .string Z] w' fun e w2 => e = .returned (.int .i64 P) ∧ Below w'.heap.size w' w2) := by rw [← HPl.out]; exact fun w' h => HSlt.out w' Z h
          obtain ⟨b3, o3, za, zc, K3, A3, I3, Y3, M3, rfl, H3, Hy3, hw3, Hk3⟩ := kid_get HY2.out hzk
          have HTm : Hid (∀ w', Below wr.heap.size wr w' → Calls Tryz.prog 50 #[.agg #[.int .i64 (K3), .int .i64 (A3), .int .i64 (I3), .string (Y3), .slice za M3 zc]] w' fun e w2 => PlR (termN z) e ∧ Below w'.heap.size w' w2) := by
            intro w' hw
            rw [← H3.out]
            exact rterm_any z za zc w' HZw.out Hk3.out.1 (Hk3.out.2.next hw)
          have HC3 : Hid (∀ w', Below wr.heap.size wr w' → w'.cell? ⟨b3, o3 + 1 * 5, none⟩ = some (.int .i64 K3) ∧ w'.cell? ⟨b3, o3 + 1 * 5 + 1, none⟩ = some (.int .i64 A3) ∧ w'.cell? ⟨b3, o3 + 1 * 5 + 2, none⟩ = some (.int .i64 I3) ∧ w'.cell? ⟨b3, o3 + 1 * 5 + 3, none⟩ = some (.string Y3) ∧ w'.cell? ⟨b3, o3 + 1 * 5 + 4, none⟩ = some (.slice za M3 zc)) := fun w' h => ⟨keep_cell h hw3.c0, keep_cell h hw3.c1, keep_cell h hw3.c2, keep_cell h hw3.c3, keep_cell h hw3.c4⟩
          clear hyl hmk hho hZm hyz hzk hw3 H3 Hy3 Hk3 hhy HZ
          go_wp2_with fail
          refine wp_region_held_drew (S := (fun w' => w'.cell? ⟨lb, lf + q * 2, none⟩ = some (.string tn) ∧ w'.cell? ⟨lb, lf + q * 2 + 1, none⟩ = some (.slice to N tc) ∧ w'.cell? ⟨BK, 0, none⟩ = some (.int .i64 K2) ∧ w'.cell? ⟨BK, 1, none⟩ = some (.int .i64 A2) ∧ w'.cell? ⟨BK, 2, none⟩ = some (.int .i64 I2) ∧ w'.cell? ⟨BK, 3, none⟩ = some (.string Y2) ∧ w'.cell? ⟨BK, 4, none⟩ = some (.slice (some ⟨b3, o3, none⟩) 2 yc) ∧ Bx w' BK #[.int .i64 K2, .int .i64 A2, .int .i64 I2, .string Y2, .slice (some ⟨b3, o3, none⟩) 2 yc] ∧ Bx w' (BK + 1) #[.int .i64 0, .bool false, .string ⟨#[]⟩, .int .i64 0, .int .i64 0, .string ⟨#[]⟩] ∧ Below wr.heap.size wr w' ∧ wr.heap.size ≤ w'.heap.size)) (by kernel_rfl) ?_ (fun hHeldA => ?_)
          · exact ⟨r0, r1, k0, k1, k2, k3, k4, HK6.out, HZ6.out, HB6.out.drew, HB6.out.drew.size⟩
          refine wpAnyH_take (i := 0) (oi := { dst := some 93, op := Op.move (Operand.tmp 1), type := 32, pos := "ref.go:73", after := #[], guard := none }) (v := ?_) rfl (by kernel_rfl) (by kernel_rfl) (by kernel_rfl) (fun _ _ _ h => h) (Or.inl ⟨by rfl, ?hyA0⟩) (by assumption) ?_
          case hyA0 => (intro w hSw; (try dsimp only at hSw); go_simp; try with_reducible rfl)
          (try simp only [Act.put, List.setIfInBounds_toArray, List.set_cons_zero, List.set_cons_succ])
          refine wpAnyH_take (i := 1) (oi := { dst := some 94, op := Op.move (Operand.tmp 7), type := 3, pos := "ref.go:73", after := #[], guard := none }) (v := ?_) rfl (by kernel_rfl) (by kernel_rfl) (by kernel_rfl) (fun _ _ _ h => h) (Or.inl ⟨by rfl, ?hyA1⟩) (by assumption) ?_
          case hyA1 => (intro w hSw; (try dsimp only at hSw); go_simp; try with_reducible rfl)
          (try simp only [Act.put, List.setIfInBounds_toArray, List.set_cons_zero, List.set_cons_succ])
          refine wpAnyH_take (i := 2) (oi := { dst := some 95, op := Op.indexAddr 32 (Operand.tmp 93) (Operand.tmp 94), type := 0, pos := "ref.go:73", after := #[{ on := 0, ground := Ground.data }, { on := 1, ground := Ground.data }], guard := none }) (v := ?_) rfl (by kernel_rfl) (by kernel_rfl) (by kernel_rfl) (fun _ _ _ h => h) (Or.inl ⟨by rfl, ?hyA2⟩) (by assumption) ?_
          case hyA2 => (intro w hSw; (try dsimp only at hSw); go_simp; try with_reducible rfl)
          (try simp only [Act.put, List.setIfInBounds_toArray, List.set_cons_zero, List.set_cons_succ])
          refine wpAnyH_take (i := 3) (oi := { dst := some 96, op := Op.load 112 (Operand.tmp 95), type := 112, pos := "ref.go:73", after := #[{ on := 2, ground := Ground.data }], guard := none }) (v := ?_) rfl (by kernel_rfl) (by kernel_rfl) (by kernel_rfl) (fun _ _ _ h => h) (Or.inl ⟨by rfl, ?hyA3⟩) (by assumption) ?_
          case hyA3 => (intro w hSw; (try dsimp only at hSw); go_simp; try with_reducible rfl)
          (try simp only [Act.put, List.setIfInBounds_toArray, List.set_cons_zero, List.set_cons_succ])
          refine wpAnyH_take (i := 4) (oi := { dst := some 97, op := Op.load 46 (Operand.tmp 10), type := 46, pos := "ref.go:73", after := #[], guard := none }) (v := ?_) rfl (by kernel_rfl) (by kernel_rfl) (by kernel_rfl) (fun _ _ _ h => h) (Or.inl ⟨by rfl, ?hyA4⟩) (by assumption) ?_
          case hyA4 => (intro w hSw; (try dsimp only at hSw); go_simp; try with_reducible rfl)
          (try simp only [Act.put, List.setIfInBounds_toArray, List.set_cons_zero, List.set_cons_succ])
          refine wpAnyH_ready (rs := [5]) (by kernel_rfl) (by simp) ?_
          refine AllReadyH.cons (o := { dst := some 98, op := Op.call { callee := Callee.value (Operand.func 47), args := #[Operand.tmp 97], argTypes := #[46] }, type := 9, pos := "ref.go:73", after := #[{ on := 4, ground := Ground.data }], guard := none }) rfl (fun K hK => ?_) AllReadyH.nil
          go_simp
          refine (HHd.out _ (hHeldA.2.2.2.2.2.2.2.2.2.1)).mono ?_
          rintro e w7 ⟨rfl, hb⟩
          refine hK.out _ _ ?_ (fun hHeldAx => ?_)
          · obtain ⟨q0, q1, q2, q3, q4, q5, q6, q7, q8, q9, qa⟩ := hHeldA
            exact ⟨keep_cell hb q0, keep_cell hb q1, keep_cell hb q2, keep_cell hb q3, keep_cell hb q4, keep_cell hb q5, keep_cell hb q6, q7.next hb, q8.next hb, below_next q9 hb qa, le_next qa hb⟩
          clear hK K hb hHeldA
          (try simp only [Act.put, List.setIfInBounds_toArray, List.set_cons_zero, List.set_cons_succ])
          refine wpAnyH_ready (rs := [6]) (by kernel_rfl) (by simp) ?_
          refine AllReadyH.cons (o := { dst := some 99, op := Op.call { callee := Callee.value (Operand.func 49), args := #[Operand.tmp 96, Operand.tmp 98], argTypes := #[112, 9] }, type := 3, pos := "ref.go:73", after := #[{ on := 3, ground := Ground.data }, { on := 5, ground := Ground.data }, { on := 5, ground := Ground.chain }], guard := none }) rfl (fun K hK => ?_) AllReadyH.nil
          go_simp
          refine (HSl.out _ (next_trans HT.out.q.bel (hHeldAx.2.2.2.2.2.2.2.2.2.1))).mono ?_
          rintro e w8 ⟨rfl, hb⟩
          refine hK.out _ _ ?_ (fun hHeldAxx => ?_)
          · obtain ⟨q0, q1, q2, q3, q4, q5, q6, q7, q8, q9, qa⟩ := hHeldAx
            exact ⟨keep_cell hb q0, keep_cell hb q1, keep_cell hb q2, keep_cell hb q3, keep_cell hb q4, keep_cell hb q5, keep_cell hb q6, q7.next hb, q8.next hb, below_next q9 hb qa, le_next qa hb⟩
          clear hK K hb hHeldAx
          (try simp only [Act.put, List.setIfInBounds_toArray, List.set_cons_zero, List.set_cons_succ])
          refine wpAnyH_take (i := 7) (oi := { dst := some 100, op := Op.binOp BinOp.lss 3 (Operand.tmp 99) (Operand.const (Value.int IntKind.i64 0)) 3, type := 4, pos := "ref.go:73", after := #[{ on := 6, ground := Ground.data }], guard := none }) (v := ?_) rfl (by kernel_rfl) (by kernel_rfl) (by kernel_rfl) (fun _ _ _ h => h) (Or.inl ⟨by rfl, ?hyA7⟩) (by assumption) ?_
          case hyA7 => (intro w hSw; (try dsimp only at hSw); go_simp; try with_reducible rfl)
          (try simp only [Act.put, List.setIfInBounds_toArray, List.set_cons_zero, List.set_cons_succ])
          refine wpAnyH_take (i := 8) (oi := { dst := some 92, op := Op.assign (Operand.tmp 100), type := 4, pos := "ref.go:73", after := #[{ on := 7, ground := Ground.data }, { on := 6, ground := Ground.chain }], guard := none }) (v := ?_) rfl (by kernel_rfl) (by kernel_rfl) (by kernel_rfl) (fun _ _ _ h => h) (Or.inl ⟨by rfl, ?hyA8⟩) (by assumption) ?_
          case hyA8 => (intro w hSw; (try dsimp only at hSw); go_simp; try with_reducible rfl)
          (try simp only [Act.put, List.setIfInBounds_toArray, List.set_cons_zero, List.set_cons_succ])
          refine wpAnyH_done (by kernel_rfl) ?_ _
          obtain ⟨r0, r1, k0, k1, k2, k3, k4, hk8, hz8, hB8, -⟩ := hHeldAxx
          have HK8 : Hid (Bx w8 BK #[.int .i64 K2, .int .i64 A2, .int .i64 I2, .string Y2, .slice (some ⟨b3, o3, none⟩) 2 yc]) := hk8
          have HZ8 : Hid (Bx w8 (BK + 1) #[.int .i64 0, .bool false, .string ⟨#[]⟩, .int .i64 0, .int .i64 0, .string ⟨#[]⟩]) := hz8
          have HB8 : Hid (Below wr.heap.size wr w8) := hB8
          clear hB8 HSl hk8 hz8 HK6 HZ6
          cases hpl : placeS tl Z with
          | none =>
            obtain rfl : P = -1 := by rw [← HPl.out]; unfold rplaceI; rw [hpl]
            have HEr : Hid (parP L x = .error (y.a, 5)) := HErr.out 5 (by rw [HEq.out, hpl])
            have hbw8 : w.heap.size + 2 < w8.heap.size := by have := HB8.out.size; have := HB6.out.size; omega
            clear HErr HRun HIs HEq HPl hpl r0 r1 HTm HC3
            go_wp2_with fail
            refine (HAt.out A2 5 _).mono ?_
            rintro e w9 ⟨⟨bq, rfl, hbq, hpq⟩, hb9⟩
            have HT9 : Hid (RqW w w9 K A I Y (some ⟨b2, o2, none⟩) M cap) := (HT.out.q.next HB8.out).next hb9
            have r0 : w9.cell? ⟨w.heap.size + 1, 0, none⟩ = some (.string ⟨#[]⟩) := HT9.out.r.cell 0
            have r1 : w9.cell? ⟨w.heap.size + 1, 1, none⟩ = some (.slice none 0 0) := HT9.out.r.cell 1
            have rf := HT9.out.r.froz
            have g0 : w9.cell? ⟨w.heap.size + 2, 0, none⟩ = some (.slice none 0 0) := HT9.out.g.cell 0
            have g1 : w9.cell? ⟨w.heap.size + 2, 1, none⟩ = some (.int .i64 0) := HT9.out.g.cell 1
            have gf := HT9.out.g.froz
            have HB9 : Hid (Below w.heap.size w w9) := HT9.out.bel
            have HPq : Hid (PtAt w9 bq ((y.a : Nat) : Int)) := by rw [HA2.out]; exact hpq
            have hbq2 : w.heap.size + 2 < bq := by omega
            clear HT9 hb9 hpq hbq
            go_wp2
            refine bodyPost_ret (v := .tuple #[.agg #[.string ⟨#[]⟩, .slice none 0 0], .agg #[.slice (some ⟨bq, 0, none⟩) 1 1, .int .i64 5]]) (by simp [results, Tryz.results13, go_sem, r0, r1, g0, g1]) rfl ?_
            exact pr_bad HEr.out HB9.out hbq2 HPq.out
          | some p =>
          obtain rfl : P = (p : Int) := by rw [← HPl.out]; unfold rplaceI; rw [hpl]
          have hp0 : ¬ (p : Int) < 0 := by omega
          have HEp : Hid (E = if hasP acc p = true then .error 6 else pickT p (termN z)) := by rw [Hid, HEq.out, hpl]
          have HSl : Hid (∀ w', Below w.heap.size w w' → Calls Tryz.prog 49 #[.agg #[.string tn, .slice to N tc], .string Z] w' fun e w2 => e = .returned (.int .i64 (p : Int)) ∧ Below w'.heap.size w' w2) := by
            have h0 : rplaceI tl Z = (p : Int) := by unfold rplaceI; rw [hpl]
            rw [← h0]; exact fun w' h => HSlt.out w' Z h
          obtain ⟨c0, c1, c2, c3, c4⟩ := HC3.out w8 HB8.out
          clear HEq HPl hpl r0 r1 HC3
          go_wp2_with fail
          refine (HTm.out w8 HB8.out).mono ?_
          rintro e w9 ⟨⟨⟨tp, tnn, tv, tk, ti, ts⟩, rfl, ht⟩, hb9⟩
          obtain ⟨Q, HQ⟩ : ∃ Q, Hid (termN z = Q) := ⟨_, rfl⟩
          rw [HQ.out] at ht HEp ⊢
          have HTq0 : Hid (∀ t', Q = some t' → (⟨tp, tnn, tv, tk, ti, ts⟩ : Ts) = t') := ht
          obtain ⟨ok, Hok⟩ : ∃ ok, Hid (Q.isSome = ok) := ⟨_, rfl⟩
          rw [Hok.out]
          unfold tsV
          simp only
          have hb9s := hb9.size
          have HB9 : Hid (Below wr.heap.size wr w9) := next_trans HB8.out hb9
          have HK9 : Hid (Bx w9 BK #[.int .i64 K2, .int .i64 A2, .int .i64 I2, .string Y2, .slice (some ⟨b3, o3, none⟩) 2 yc]) := HK8.out.next hb9
          have HZ9 : Hid (Bx w9 (BK + 1) #[.int .i64 0, .bool false, .string ⟨#[]⟩, .int .i64 0, .int .i64 0, .string ⟨#[]⟩]) := HZ8.out.next hb9
          have z0 : w9.cell? ⟨BK + 1, 0, none⟩ = some (.int .i64 0) := HZ9.out.cell 0
          have z1 : w9.cell? ⟨BK + 1, 1, none⟩ = some (.bool false) := HZ9.out.cell 1
          have z2 : w9.cell? ⟨BK + 1, 2, none⟩ = some (.string ⟨#[]⟩) := HZ9.out.cell 2
          have z3 : w9.cell? ⟨BK + 1, 3, none⟩ = some (.int .i64 0) := HZ9.out.cell 3
          have z4 : w9.cell? ⟨BK + 1, 4, none⟩ = some (.int .i64 0) := HZ9.out.cell 4
          have z5 : w9.cell? ⟨BK + 1, 5, none⟩ = some (.string ⟨#[]⟩) := HZ9.out.cell 5
          have zf := HZ9.out.froz
          have hzl : BK + 1 < w9.heap.size := HZ9.out.lt
          obtain ⟨W10, HW10⟩ : ∃ W10, Hid (((((((w9.setCell ⟨BK + 1, 0, none⟩ (.int .i64 (tp : Int))).setCell ⟨BK + 1, 1, none⟩ (.bool tnn)).setCell ⟨BK + 1, 2, none⟩ (.string tv)).setCell ⟨BK + 1, 3, none⟩ (.int .i64 tk)).setCell ⟨BK + 1, 4, none⟩ (.int .i64 ti)).setCell ⟨BK + 1, 5, none⟩ (.string ts)).alloc (.cells #[.int .i64 (tp : Int), .bool tnn, .string tv, .int .i64 tk, .int .i64 ti, .string ts] 125) = W10) := ⟨_, rfl⟩
          have hbk : wr.heap.size ≤ BK + 1 := by have := HBK.out; omega
          have HB10 : Hid (Below wr.heap.size wr W10) := by rw [← HW10.out]; exact bel6a HB9.out hbk HB9.out.size _ _ _ _ _ _ _
          have HK10 : Hid (Bx W10 BK #[.int .i64 K2, .int .i64 A2, .int .i64 I2, .string Y2, .slice (some ⟨b3, o3, none⟩) 2 yc]) := by
            rw [← HW10.out]; exact ((((((HK9.out.off (by omega) _ _).off (by omega) _ _).off (by omega) _ _).off (by omega) _ _).off (by omega) _ _).off (by omega) _ _).alloc _
          have HZ10 : Hid (Bx W10 (BK + 1) #[.int .i64 (tp : Int), .bool tnn, .string tv, .int .i64 tk, .int .i64 ti, .string ts]) := by
            rw [← HW10.out]; exact ((((((HZ9.out.set 0 (.int .i64 (tp : Int))).set 1 (.bool tnn)).set 2 (.string tv)).set 3 (.int .i64 tk)).set 4 (.int .i64 ti)).set 5 (.string ts)).alloc _
          clear ht hb9 hb9s HTm HK8 HZ8 HK9 HZ9 HB9 c0 c1 c2 c3 c4
          obtain ⟨r0, r1⟩ := HRow.out W10 (next_trans HT.out.q.bel HB10.out)
          clear k0 k1 k2 k3 k4
          go_wp2_with fail
          rw [HW10.out]
          clear HW10 z0 z1 z2 z3 z4 z5 zf hzl
          have hne : lb ≠ BK + 1 := by have := HBK.out; have := HT.out.q.n.lt; omega
          have hne2 : BK ≠ BK + 1 := by omega
          obtain ⟨k0, k1, k2, k3, k4⟩ : W10.cell? ⟨BK, 0, none⟩ = some (.int .i64 K2) ∧ W10.cell? ⟨BK, 1, none⟩ = some (.int .i64 A2) ∧ W10.cell? ⟨BK, 2, none⟩ = some (.int .i64 I2) ∧ W10.cell? ⟨BK, 3, none⟩ = some (.string Y2) ∧ W10.cell? ⟨BK, 4, none⟩ = some (.slice (some ⟨b3, o3, none⟩) 2 yc) := ⟨HK10.out.cell 0, HK10.out.cell 1, HK10.out.cell 2, HK10.out.cell 3, HK10.out.cell 4⟩
          refine wp_region_held_drew (S := (fun w' => w'.cell? ⟨lb, lf + q * 2, none⟩ = some (.string tn) ∧ w'.cell? ⟨lb, lf + q * 2 + 1, none⟩ = some (.slice to N tc) ∧ w'.cell? ⟨BK, 0, none⟩ = some (.int .i64 K2) ∧ w'.cell? ⟨BK, 1, none⟩ = some (.int .i64 A2) ∧ w'.cell? ⟨BK, 2, none⟩ = some (.int .i64 I2) ∧ w'.cell? ⟨BK, 3, none⟩ = some (.string Y2) ∧ w'.cell? ⟨BK, 4, none⟩ = some (.slice (some ⟨b3, o3, none⟩) 2 yc) ∧ Bx w' BK #[.int .i64 K2, .int .i64 A2, .int .i64 I2, .string Y2, .slice (some ⟨b3, o3, none⟩) 2 yc] ∧ (∃ u, Bx w' (BK + 1) #[.int .i64 u, .bool tnn, .string tv, .int .i64 tk, .int .i64 ti, .string ts]) ∧ Below wr.heap.size wr w' ∧ wr.heap.size ≤ w'.heap.size)) (by kernel_rfl) ?_ (fun hHeldB => ?_)
          · exact ⟨r0, r1, k0, k1, k2, k3, k4, HK10.out, ⟨_, HZ10.out⟩, HB10.out.drew, HB10.out.drew.size⟩
          refine wpAnyH_take (i := 0) (oi := { dst := some 56, op := Op.move (Operand.tmp 1), type := 32, pos := "ref.go:78", after := #[], guard := none }) (v := ?_) rfl (by kernel_rfl) (by kernel_rfl) (by kernel_rfl) (fun _ _ _ h => h) (Or.inl ⟨by rfl, ?hyB0⟩) (by assumption) ?_
          case hyB0 => (intro w hSw; (try dsimp only at hSw); go_simp; try with_reducible rfl)
          (try simp only [Act.put, List.setIfInBounds_toArray, List.set_cons_zero, List.set_cons_succ])
          refine wpAnyH_take (i := 1) (oi := { dst := some 57, op := Op.move (Operand.tmp 7), type := 3, pos := "ref.go:78", after := #[], guard := none }) (v := ?_) rfl (by kernel_rfl) (by kernel_rfl) (by kernel_rfl) (fun _ _ _ h => h) (Or.inl ⟨by rfl, ?hyB1⟩) (by assumption) ?_
          case hyB1 => (intro w hSw; (try dsimp only at hSw); go_simp; try with_reducible rfl)
          (try simp only [Act.put, List.setIfInBounds_toArray, List.set_cons_zero, List.set_cons_succ])
          refine wpAnyH_take (i := 2) (oi := { dst := some 58, op := Op.indexAddr 32 (Operand.tmp 56) (Operand.tmp 57), type := 0, pos := "ref.go:78", after := #[{ on := 0, ground := Ground.data }, { on := 1, ground := Ground.data }], guard := none }) (v := ?_) rfl (by kernel_rfl) (by kernel_rfl) (by kernel_rfl) (fun _ _ _ h => h) (Or.inl ⟨by rfl, ?hyB2⟩) (by assumption) ?_
          case hyB2 => (intro w hSw; (try dsimp only at hSw); go_simp; try with_reducible rfl)
          (try simp only [Act.put, List.setIfInBounds_toArray, List.set_cons_zero, List.set_cons_succ])
          refine wpAnyH_take (i := 3) (oi := { dst := some 59, op := Op.load 112 (Operand.tmp 58), type := 112, pos := "ref.go:78", after := #[{ on := 2, ground := Ground.data }], guard := none }) (v := ?_) rfl (by kernel_rfl) (by kernel_rfl) (by kernel_rfl) (fun _ _ _ h => h) (Or.inl ⟨by rfl, ?hyB3⟩) (by assumption) ?_
          case hyB3 => (intro w hSw; (try dsimp only at hSw); go_simp; try with_reducible rfl)
          (try simp only [Act.put, List.setIfInBounds_toArray, List.set_cons_zero, List.set_cons_succ])
          refine wpAnyH_take (i := 4) (oi := { dst := some 60, op := Op.load 46 (Operand.tmp 10), type := 46, pos := "ref.go:78", after := #[], guard := none }) (v := ?_) rfl (by kernel_rfl) (by kernel_rfl) (by kernel_rfl) (fun _ _ _ h => h) (Or.inl ⟨by rfl, ?hyB4⟩) (by assumption) ?_
          case hyB4 => (intro w hSw; (try dsimp only at hSw); go_simp; try with_reducible rfl)
          (try simp only [Act.put, List.setIfInBounds_toArray, List.set_cons_zero, List.set_cons_succ])
          refine wpAnyH_ready (rs := [5]) (by kernel_rfl) (by simp) ?_
          refine AllReadyH.cons (o := { dst := some 61, op := Op.call { callee := Callee.value (Operand.func 47), args := #[Operand.tmp 60], argTypes := #[46] }, type := 9, pos := "ref.go:78", after := #[{ on := 4, ground := Ground.data }], guard := none }) rfl (fun K hK => ?_) AllReadyH.nil
          go_simp
          refine (HHd.out _ (hHeldB.2.2.2.2.2.2.2.2.2.1)).mono ?_
          rintro e wb ⟨rfl, hb⟩
          refine hK.out _ _ ?_ (fun hHeldBx => ?_)
          · obtain ⟨q0, q1, q2, q3, q4, q5, q6, q7, ⟨u, q8⟩, q9, qa⟩ := hHeldB
            exact ⟨keep_cell hb q0, keep_cell hb q1, keep_cell hb q2, keep_cell hb q3, keep_cell hb q4, keep_cell hb q5, keep_cell hb q6, q7.next hb, ⟨u, q8.next hb⟩, below_next q9 hb qa, le_next qa hb⟩
          clear hK K hb hHeldB
          (try simp only [Act.put, List.setIfInBounds_toArray, List.set_cons_zero, List.set_cons_succ])
          refine wpAnyH_ready (rs := [6]) (by kernel_rfl) (by simp) ?_
          refine AllReadyH.cons (o := { dst := some 62, op := Op.call { callee := Callee.value (Operand.func 49), args := #[Operand.tmp 59, Operand.tmp 61], argTypes := #[112, 9] }, type := 3, pos := "ref.go:78", after := #[{ on := 3, ground := Ground.data }, { on := 5, ground := Ground.data }, { on := 5, ground := Ground.chain }], guard := none }) rfl (fun K hK => ?_) AllReadyH.nil
          go_simp
          refine (HSl.out _ (next_trans HT.out.q.bel (hHeldBx.2.2.2.2.2.2.2.2.2.1))).mono ?_
          rintro e wc ⟨rfl, hb⟩
          refine hK.out _ _ ?_ (fun hHeldBxx => ?_)
          · obtain ⟨q0, q1, q2, q3, q4, q5, q6, q7, ⟨u, q8⟩, q9, qa⟩ := hHeldBx
            exact ⟨keep_cell hb q0, keep_cell hb q1, keep_cell hb q2, keep_cell hb q3, keep_cell hb q4, keep_cell hb q5, keep_cell hb q6, q7.next hb, ⟨u, q8.next hb⟩, below_next q9 hb qa, le_next qa hb⟩
          clear hK K hb hHeldBx
          (try simp only [Act.put, List.setIfInBounds_toArray, List.set_cons_zero, List.set_cons_succ])
          refine wpAnyH_take (i := 7) (oi := { dst := some 63, op := Op.fieldAddr 125 (Operand.tmp 12) 0, type := 0, pos := "ref.go:78", after := #[{ on := 0, ground := Ground.phase }, { on := 1, ground := Ground.phase }, { on := 2, ground := Ground.phase }, { on := 3, ground := Ground.phase }, { on := 4, ground := Ground.phase }, { on := 5, ground := Ground.phase }, { on := 6, ground := Ground.phase }], guard := none }) (v := ?_) rfl (by kernel_rfl) (by kernel_rfl) (by kernel_rfl) (fun _ _ _ h => h) (Or.inl ⟨by rfl, ?hyB7⟩) (by assumption) ?_
          case hyB7 => (intro w hSw; (try dsimp only at hSw); go_simp; try with_reducible rfl)
          (try simp only [Act.put, List.setIfInBounds_toArray, List.set_cons_zero, List.set_cons_succ])
          obtain ⟨_, _, _, _, _, _, _, _, ⟨u, zc8⟩, _, _⟩ := id hHeldBxx
          have zc0 := zc8.cell 0
          have zf := zc8.froz
          refine wpAnyH_ready (rs := [8]) (by kernel_rfl) (by simp) ?_
          refine AllReadyH.cons (o := { dst := none, op := Op.store 3 (Operand.tmp 63) (Operand.tmp 62), type := 0, pos := "ref.go:78", after := #[{ on := 7, ground := Ground.data }, { on := 6, ground := Ground.data }, { on := 6, ground := Ground.chain }, { on := 0, ground := Ground.phase }, { on := 1, ground := Ground.phase }, { on := 2, ground := Ground.phase }, { on := 3, ground := Ground.phase }, { on := 4, ground := Ground.phase }, { on := 5, ground := Ground.phase }, { on := 6, ground := Ground.phase }], guard := none }) rfl (fun K hK => ?_) AllReadyH.nil
          go_simp
          refine hK.out _ _ ?_ (fun hHeldBxxm => ?_)
          · obtain ⟨q0, q1, q2, q3, q4, q5, q6, q7, ⟨u9, q8⟩, q9, qa⟩ := hHeldBxx
            exact ⟨(World.cell?_setCell_far _ _ _ _ (by show _ ≠ _; simp only; omega)).trans q0, (World.cell?_setCell_far _ _ _ _ (by show _ ≠ _; simp only; omega)).trans q1, (World.cell?_setCell_far _ _ _ _ (by show _ ≠ _; simp only; omega)).trans q2, (World.cell?_setCell_far _ _ _ _ (by show _ ≠ _; simp only; omega)).trans q3, (World.cell?_setCell_far _ _ _ _ (by show _ ≠ _; simp only; omega)).trans q4, (World.cell?_setCell_far _ _ _ _ (by show _ ≠ _; simp only; omega)).trans q5, (World.cell?_setCell_far _ _ _ _ (by show _ ≠ _; simp only; omega)).trans q6, q7.off hne2 _ _, ⟨_, q8.set 0 _⟩, set_bel q9 hbk, by simp [World.setCell]; exact qa⟩
          clear hK K hHeldBxx
          (try simp only [Act.put, List.setIfInBounds_toArray, List.set_cons_zero, List.set_cons_succ])
          refine wpAnyH_done (by kernel_rfl) ?_ _
          obtain ⟨W13, HW13⟩ : ∃ W13, Hid (wc.setCell ⟨BK + 1, 0, none⟩ (.int .i64 (p : Int)) = W13) := ⟨_, rfl⟩
          obtain ⟨-, -, -, -, -, -, -, hk13, -, hB13, -⟩ := hHeldBxxm
          rw [HW13.out] at hk13 hB13
          have HZ13 : Hid (Bx W13 (BK + 1) #[.int .i64 (p : Int), .bool tnn, .string tv, .int .i64 tk, .int .i64 ti, .string ts]) := by rw [← HW13.out]; exact zc8.set 0 _
          have HK13 : Hid (Bx W13 BK #[.int .i64 K2, .int .i64 A2, .int .i64 I2, .string Y2, .slice (some ⟨b3, o3, none⟩) 2 yc]) := hk13
          have HT13 : Hid (RpW w W13 K A I Y (some ⟨b2, o2, none⟩) M cap TB tn (.slice po C pc) acc) := HT.out.next hB13
          have HI13 : Hid (IsTss W13 po acc) := HIs.out.next hB13
          rw [HW13.out]
          clear HW13 hk13 hB13 zc0 zf zc8 HT HIs HK10 HZ10 HB10 HSl HHd HSlt k0 k1 k2 k3 k4 r0 r1 hne hne2 hbw
          cases ok
          · go_wp2
            go_loopw [11, 15] (fun e11 q15 wq => ∃ (j : Nat) (ee : Int), j ≤ C ∧ q15 = .int .i64 j ∧ e11 = .int .i64 ee ∧ Hid (ee = if hasP (acc.take j) p = true then 6 else 2) ∧ Hid (Below W13.heap.size W13 wq)) (fun _ q15 _ => C - (intOf q15).toNat)
            case atStart => exact ⟨0, 2, Nat.zero_le _, rfl, rfl, rfl, Below.refl _ _⟩
            case round =>
              obtain ⟨j, ee, hj, rfl, rfl, HEe, HBq⟩ := hrel
              have HTq : Hid (RpW w wr K A I Y (some ⟨b2, o2, none⟩) M cap TB tn (.slice po C pc) acc) := HT13.out.next HBq.out
              have p1 : wr.cell? ⟨TB, 1, none⟩ = some (.slice po C pc) := HTq.out.p.cell 1
              have z0 : wr.cell? ⟨BK + 1, 0, none⟩ = some (.int .i64 (p : Int)) := (HZ13.out.next HBq.out).cell 0
              by_cases hjc : j < C
              · have hji : (j : Int) < (C : Int) := by omega
                have hj0 : (0 : Int) ≤ (j : Int) := by omega
                obtain ⟨s, hs⟩ : ∃ s, acc[j]? = some s := ⟨_, List.getElem?_eq_getElem (by rw [HC.out]; exact hjc)⟩
                obtain ⟨b4, o4, rfl, f0, -⟩ := (HI13.out.next HBq.out) j s hs
                have hst := hasP_step (p := p) hs
                obtain ⟨sp, sn, sv, sk, si, ss⟩ := s
                simp only at f0 hst
                clear hs HTq
                by_cases hsp : sp = p
                · have HE6 : Hid ((6 : Int) = if hasP (acc.take (j + 1)) p = true then 6 else 2) := by rw [Hid, hst, decide_eq_true hsp, Bool.or_true, if_pos rfl]
                  have hd : ((sp : Int) == (p : Int)) = true := by rw [hsp]; exact beq_self_eq_true _
                  clear hst hsp HEe
                  go_wp2
                  refine wp_region_held_drew (S := (fun w' => w'.cell? ⟨TB, 1, none⟩ = some (.slice (some ⟨b4, o4, none⟩) C pc) ∧ w'.cell? ⟨b4, o4 + j * 6, none⟩ = some (.int .i64 (sp : Int)) ∧ w'.cell? ⟨BK + 1, 0, none⟩ = some (.int .i64 (p : Int)))) (by kernel_rfl) ?_ (fun hHeldCP => ?_)
                  · exact ⟨p1, f0, z0⟩
                  refine wpAnyH_take (i := 0) (oi := { dst := some 73, op := Op.fieldAddr 49 (Operand.tmp 8) 1, type := 0, pos := "ref.go:83", after := #[], guard := none }) (v := ?_) rfl (by kernel_rfl) (by kernel_rfl) (by kernel_rfl) (fun _ _ _ h => h) (Or.inl ⟨by rfl, ?hyCP0⟩) (by assumption) ?_
                  case hyCP0 => (intro w hSw; (try dsimp only at hSw); go_simp; try with_reducible rfl)
                  (try simp only [Act.put, List.setIfInBounds_toArray, List.set_cons_zero, List.set_cons_succ])
                  refine wpAnyH_take (i := 1) (oi := { dst := some 74, op := Op.load 47 (Operand.tmp 73), type := 47, pos := "ref.go:83", after := #[{ on := 0, ground := Ground.data }], guard := none }) (v := ?_) rfl (by kernel_rfl) (by kernel_rfl) (by kernel_rfl) (fun _ _ _ h => h) (Or.inl ⟨by rfl, ?hyCP1⟩) (by assumption) ?_
                  case hyCP1 => (intro w hSw; (try dsimp only at hSw); go_simp; try with_reducible rfl)
                  (try simp only [Act.put, List.setIfInBounds_toArray, List.set_cons_zero, List.set_cons_succ])
                  refine wpAnyH_take (i := 2) (oi := { dst := some 75, op := Op.move (Operand.tmp 15), type := 3, pos := "ref.go:83", after := #[], guard := none }) (v := ?_) rfl (by kernel_rfl) (by kernel_rfl) (by kernel_rfl) (fun _ _ _ h => h) (Or.inl ⟨by rfl, ?hyCP2⟩) (by assumption) ?_
                  case hyCP2 => (intro w hSw; (try dsimp only at hSw); go_simp; try with_reducible rfl)
                  (try simp only [Act.put, List.setIfInBounds_toArray, List.set_cons_zero, List.set_cons_succ])
                  refine wpAnyH_take (i := 3) (oi := { dst := some 76, op := Op.indexAddr 47 (Operand.tmp 74) (Operand.tmp 75), type := 0, pos := "ref.go:83", after := #[{ on := 1, ground := Ground.data }, { on := 2, ground := Ground.data }], guard := none }) (v := ?_) rfl (by kernel_rfl) (by kernel_rfl) (by kernel_rfl) (fun _ _ _ h => h) (Or.inl ⟨by rfl, ?hyCP3⟩) (by assumption) ?_
                  case hyCP3 => (intro w hSw; (try dsimp only at hSw); go_simp; try with_reducible rfl)
                  (try simp only [Act.put, List.setIfInBounds_toArray, List.set_cons_zero, List.set_cons_succ])
                  refine wpAnyH_take (i := 4) (oi := { dst := some 77, op := Op.fieldAddr 125 (Operand.tmp 76) 0, type := 0, pos := "ref.go:83", after := #[{ on := 3, ground := Ground.data }], guard := none }) (v := ?_) rfl (by kernel_rfl) (by kernel_rfl) (by kernel_rfl) (fun _ _ _ h => h) (Or.inl ⟨by rfl, ?hyCP4⟩) (by assumption) ?_
                  case hyCP4 => (intro w hSw; (try dsimp only at hSw); go_simp; try with_reducible rfl)
                  (try simp only [Act.put, List.setIfInBounds_toArray, List.set_cons_zero, List.set_cons_succ])
                  refine wpAnyH_take (i := 5) (oi := { dst := some 78, op := Op.load 3 (Operand.tmp 77), type := 3, pos := "ref.go:83", after := #[{ on := 4, ground := Ground.data }], guard := none }) (v := ?_) rfl (by kernel_rfl) (by kernel_rfl) (by kernel_rfl) (fun _ _ _ h => h) (Or.inl ⟨by rfl, ?hyCP5⟩) (by assumption) ?_
                  case hyCP5 => (intro w hSw; (try dsimp only at hSw); go_simp; try with_reducible rfl)
                  (try simp only [Act.put, List.setIfInBounds_toArray, List.set_cons_zero, List.set_cons_succ])
                  refine wpAnyH_take (i := 6) (oi := { dst := some 79, op := Op.fieldAddr 125 (Operand.tmp 12) 0, type := 0, pos := "ref.go:83", after := #[], guard := none }) (v := ?_) rfl (by kernel_rfl) (by kernel_rfl) (by kernel_rfl) (fun _ _ _ h => h) (Or.inl ⟨by rfl, ?hyCP6⟩) (by assumption) ?_
                  case hyCP6 => (intro w hSw; (try dsimp only at hSw); go_simp; try with_reducible rfl)
                  (try simp only [Act.put, List.setIfInBounds_toArray, List.set_cons_zero, List.set_cons_succ])
                  refine wpAnyH_take (i := 7) (oi := { dst := some 80, op := Op.load 3 (Operand.tmp 79), type := 3, pos := "ref.go:83", after := #[{ on := 6, ground := Ground.data }], guard := none }) (v := ?_) rfl (by kernel_rfl) (by kernel_rfl) (by kernel_rfl) (fun _ _ _ h => h) (Or.inl ⟨by rfl, ?hyCP7⟩) (by assumption) ?_
                  case hyCP7 => (intro w hSw; (try dsimp only at hSw); go_simp; try with_reducible rfl)
                  (try simp only [Act.put, List.setIfInBounds_toArray, List.set_cons_zero, List.set_cons_succ])
                  refine wpAnyH_take (i := 8) (oi := { dst := some 81, op := Op.binOp BinOp.eql 3 (Operand.tmp 78) (Operand.tmp 80) 3, type := 4, pos := "ref.go:83", after := #[{ on := 5, ground := Ground.data }, { on := 7, ground := Ground.data }], guard := none }) (v := ?_) rfl (by kernel_rfl) (by kernel_rfl) (by kernel_rfl) (fun _ _ _ h => h) (Or.inl ⟨by rfl, ?hyCP8⟩) (by assumption) ?_
                  case hyCP8 => (intro w hSw; (try dsimp only at hSw); go_simp; try with_reducible rfl)
                  (try simp only [Act.put, List.setIfInBounds_toArray, List.set_cons_zero, List.set_cons_succ])
                  refine wpAnyH_done (by kernel_rfl) ?_ _
                  go_wp2
                  go_roundw
                  case rel => exact ⟨j + 1, 6, by omega, by go_num, rfl, HE6, HBq.out.drew⟩
                  case measure => simp [intOf]; omega
                · have HE6 : Hid (ee = if hasP (acc.take (j + 1)) p = true then 6 else 2) := by rw [Hid, hst, decide_eq_false hsp, Bool.or_false]; exact HEe.out
                  have hd : ((sp : Int) == (p : Int)) = false := by simp; omega
                  clear hst hsp HEe
                  go_wp2
                  refine wp_region_held_drew (S := (fun w' => w'.cell? ⟨TB, 1, none⟩ = some (.slice (some ⟨b4, o4, none⟩) C pc) ∧ w'.cell? ⟨b4, o4 + j * 6, none⟩ = some (.int .i64 (sp : Int)) ∧ w'.cell? ⟨BK + 1, 0, none⟩ = some (.int .i64 (p : Int)))) (by kernel_rfl) ?_ (fun hHeldCN => ?_)
                  · exact ⟨p1, f0, z0⟩
                  refine wpAnyH_take (i := 0) (oi := { dst := some 73, op := Op.fieldAddr 49 (Operand.tmp 8) 1, type := 0, pos := "ref.go:83", after := #[], guard := none }) (v := ?_) rfl (by kernel_rfl) (by kernel_rfl) (by kernel_rfl) (fun _ _ _ h => h) (Or.inl ⟨by rfl, ?hyCN0⟩) (by assumption) ?_
                  case hyCN0 => (intro w hSw; (try dsimp only at hSw); go_simp; try with_reducible rfl)
                  (try simp only [Act.put, List.setIfInBounds_toArray, List.set_cons_zero, List.set_cons_succ])
                  refine wpAnyH_take (i := 1) (oi := { dst := some 74, op := Op.load 47 (Operand.tmp 73), type := 47, pos := "ref.go:83", after := #[{ on := 0, ground := Ground.data }], guard := none }) (v := ?_) rfl (by kernel_rfl) (by kernel_rfl) (by kernel_rfl) (fun _ _ _ h => h) (Or.inl ⟨by rfl, ?hyCN1⟩) (by assumption) ?_
                  case hyCN1 => (intro w hSw; (try dsimp only at hSw); go_simp; try with_reducible rfl)
                  (try simp only [Act.put, List.setIfInBounds_toArray, List.set_cons_zero, List.set_cons_succ])
                  refine wpAnyH_take (i := 2) (oi := { dst := some 75, op := Op.move (Operand.tmp 15), type := 3, pos := "ref.go:83", after := #[], guard := none }) (v := ?_) rfl (by kernel_rfl) (by kernel_rfl) (by kernel_rfl) (fun _ _ _ h => h) (Or.inl ⟨by rfl, ?hyCN2⟩) (by assumption) ?_
                  case hyCN2 => (intro w hSw; (try dsimp only at hSw); go_simp; try with_reducible rfl)
                  (try simp only [Act.put, List.setIfInBounds_toArray, List.set_cons_zero, List.set_cons_succ])
                  refine wpAnyH_take (i := 3) (oi := { dst := some 76, op := Op.indexAddr 47 (Operand.tmp 74) (Operand.tmp 75), type := 0, pos := "ref.go:83", after := #[{ on := 1, ground := Ground.data }, { on := 2, ground := Ground.data }], guard := none }) (v := ?_) rfl (by kernel_rfl) (by kernel_rfl) (by kernel_rfl) (fun _ _ _ h => h) (Or.inl ⟨by rfl, ?hyCN3⟩) (by assumption) ?_
                  case hyCN3 => (intro w hSw; (try dsimp only at hSw); go_simp; try with_reducible rfl)
                  (try simp only [Act.put, List.setIfInBounds_toArray, List.set_cons_zero, List.set_cons_succ])
                  refine wpAnyH_take (i := 4) (oi := { dst := some 77, op := Op.fieldAddr 125 (Operand.tmp 76) 0, type := 0, pos := "ref.go:83", after := #[{ on := 3, ground := Ground.data }], guard := none }) (v := ?_) rfl (by kernel_rfl) (by kernel_rfl) (by kernel_rfl) (fun _ _ _ h => h) (Or.inl ⟨by rfl, ?hyCN4⟩) (by assumption) ?_
                  case hyCN4 => (intro w hSw; (try dsimp only at hSw); go_simp; try with_reducible rfl)
                  (try simp only [Act.put, List.setIfInBounds_toArray, List.set_cons_zero, List.set_cons_succ])
                  refine wpAnyH_take (i := 5) (oi := { dst := some 78, op := Op.load 3 (Operand.tmp 77), type := 3, pos := "ref.go:83", after := #[{ on := 4, ground := Ground.data }], guard := none }) (v := ?_) rfl (by kernel_rfl) (by kernel_rfl) (by kernel_rfl) (fun _ _ _ h => h) (Or.inl ⟨by rfl, ?hyCN5⟩) (by assumption) ?_
                  case hyCN5 => (intro w hSw; (try dsimp only at hSw); go_simp; try with_reducible rfl)
                  (try simp only [Act.put, List.setIfInBounds_toArray, List.set_cons_zero, List.set_cons_succ])
                  refine wpAnyH_take (i := 6) (oi := { dst := some 79, op := Op.fieldAddr 125 (Operand.tmp 12) 0, type := 0, pos := "ref.go:83", after := #[], guard := none }) (v := ?_) rfl (by kernel_rfl) (by kernel_rfl) (by kernel_rfl) (fun _ _ _ h => h) (Or.inl ⟨by rfl, ?hyCN6⟩) (by assumption) ?_
                  case hyCN6 => (intro w hSw; (try dsimp only at hSw); go_simp; try with_reducible rfl)
                  (try simp only [Act.put, List.setIfInBounds_toArray, List.set_cons_zero, List.set_cons_succ])
                  refine wpAnyH_take (i := 7) (oi := { dst := some 80, op := Op.load 3 (Operand.tmp 79), type := 3, pos := "ref.go:83", after := #[{ on := 6, ground := Ground.data }], guard := none }) (v := ?_) rfl (by kernel_rfl) (by kernel_rfl) (by kernel_rfl) (fun _ _ _ h => h) (Or.inl ⟨by rfl, ?hyCN7⟩) (by assumption) ?_
                  case hyCN7 => (intro w hSw; (try dsimp only at hSw); go_simp; try with_reducible rfl)
                  (try simp only [Act.put, List.setIfInBounds_toArray, List.set_cons_zero, List.set_cons_succ])
                  refine wpAnyH_take (i := 8) (oi := { dst := some 81, op := Op.binOp BinOp.eql 3 (Operand.tmp 78) (Operand.tmp 80) 3, type := 4, pos := "ref.go:83", after := #[{ on := 5, ground := Ground.data }, { on := 7, ground := Ground.data }], guard := none }) (v := ?_) rfl (by kernel_rfl) (by kernel_rfl) (by kernel_rfl) (fun _ _ _ h => h) (Or.inl ⟨by rfl, ?hyCN8⟩) (by assumption) ?_
                  case hyCN8 => (intro w hSw; (try dsimp only at hSw); go_simp; try with_reducible rfl)
                  (try simp only [Act.put, List.setIfInBounds_toArray, List.set_cons_zero, List.set_cons_succ])
                  refine wpAnyH_done (by kernel_rfl) ?_ _
                  go_wp2
                  go_roundw
                  case rel => exact ⟨j + 1, ee, by omega, by go_num, rfl, HE6, HBq.out.drew⟩
                  case measure => simp [intOf]; omega
              · have hji : ¬ (j : Int) < (C : Int) := by omega
                rw [show acc.take j = acc from List.take_of_length_le (by rw [HC.out]; omega)] at HEe
                have k1 : wr.cell? ⟨BK, 1, none⟩ = some (.int .i64 A2) := (HK13.out.next HBq.out).cell 1
                have hbw : w.heap.size + 2 < wr.heap.size := HTq.out.q.g.lt
                cases hhp : hasP acc p with
                | true =>
                  obtain rfl : ee = 6 := by rw [HEe.out, hhp]; rfl
                  have HEr : Hid (parP L x = .error (y.a, 6)) := HErr.out 6 (by rw [HEp.out, hhp]; rfl)
                  clear HErr HRun HEp hhp HEe HI13 z0
                  go_wp2_with fail
                  refine (HAt.out A2 6 _).mono ?_
                  rintro e w9 ⟨⟨bq, rfl, hbq, hpq⟩, hb9⟩
                  have HT9 : Hid (RqW w w9 K A I Y (some ⟨b2, o2, none⟩) M cap) := HTq.out.q.next hb9
                  have r0 : w9.cell? ⟨w.heap.size + 1, 0, none⟩ = some (.string ⟨#[]⟩) := HT9.out.r.cell 0
                  have r1 : w9.cell? ⟨w.heap.size + 1, 1, none⟩ = some (.slice none 0 0) := HT9.out.r.cell 1
                  have rf := HT9.out.r.froz
                  have g0 : w9.cell? ⟨w.heap.size + 2, 0, none⟩ = some (.slice none 0 0) := HT9.out.g.cell 0
                  have g1 : w9.cell? ⟨w.heap.size + 2, 1, none⟩ = some (.int .i64 0) := HT9.out.g.cell 1
                  have gf := HT9.out.g.froz
                  have HB9 : Hid (Below w.heap.size w w9) := HT9.out.bel
                  have HPq : Hid (PtAt w9 bq ((y.a : Nat) : Int)) := by rw [HA2.out]; exact hpq
                  have hbq2 : w.heap.size + 2 < bq := by omega
                  clear HT9 hb9 hpq hbq
                  go_wp2
                  refine bodyPost_ret (v := .tuple #[.agg #[.string ⟨#[]⟩, .slice none 0 0], .agg #[.slice (some ⟨bq, 0, none⟩) 1 1, .int .i64 6]]) (by simp [results, Tryz.results13, go_sem, r0, r1, g0, g1]) rfl ?_
                  exact pr_bad HEr.out HB9.out hbq2 HPq.out
                | false =>
                  obtain rfl : ee = 2 := by rw [HEe.out, hhp]; rfl
                  have HEq2 : Hid (E = pickT p Q) := by rw [Hid, HEp.out, hhp]; rfl
                  clear HEp hhp HEe
                  have HEr : Hid (parP L x = .error (y.a, 2)) := HErr.out 2 (by
                    rw [HEq2.out]
                    have := Hok.out
                    cases Q with
                    | none => rfl
                    | some t => cases this)
                  clear HErr HRun HEq2 HI13 z0
                  go_wp2_with fail
                  refine (HAt.out A2 2 _).mono ?_
                  rintro e w9 ⟨⟨bq, rfl, hbq, hpq⟩, hb9⟩
                  have HT9 : Hid (RqW w w9 K A I Y (some ⟨b2, o2, none⟩) M cap) := HTq.out.q.next hb9
                  have r0 : w9.cell? ⟨w.heap.size + 1, 0, none⟩ = some (.string ⟨#[]⟩) := HT9.out.r.cell 0
                  have r1 : w9.cell? ⟨w.heap.size + 1, 1, none⟩ = some (.slice none 0 0) := HT9.out.r.cell 1
                  have rf := HT9.out.r.froz
                  have g0 : w9.cell? ⟨w.heap.size + 2, 0, none⟩ = some (.slice none 0 0) := HT9.out.g.cell 0
                  have g1 : w9.cell? ⟨w.heap.size + 2, 1, none⟩ = some (.int .i64 0) := HT9.out.g.cell 1
                  have gf := HT9.out.g.froz
                  have HB9 : Hid (Below w.heap.size w w9) := HT9.out.bel
                  have HPq : Hid (PtAt w9 bq ((y.a : Nat) : Int)) := by rw [HA2.out]; exact hpq
                  have hbq2 : w.heap.size + 2 < bq := by omega
                  clear HT9 hb9 hpq hbq
                  go_wp2
                  refine bodyPost_ret (v := .tuple #[.agg #[.string ⟨#[]⟩, .slice none 0 0], .agg #[.slice (some ⟨bq, 0, none⟩) 1 1, .int .i64 2]]) (by simp [results, Tryz.results13, go_sem, r0, r1, g0, g1]) rfl ?_
                  exact pr_bad HEr.out HB9.out hbq2 HPq.out
          · go_wp2
            go_loopw [11, 15] (fun e11 q15 wq => ∃ (j : Nat) (ee : Int), j ≤ C ∧ q15 = .int .i64 j ∧ e11 = .int .i64 ee ∧ Hid (ee = if hasP (acc.take j) p = true then 6 else 0) ∧ Hid (Below W13.heap.size W13 wq)) (fun _ q15 _ => C - (intOf q15).toNat)
            case atStart => exact ⟨0, 0, Nat.zero_le _, rfl, rfl, rfl, Below.refl _ _⟩
            case round =>
              obtain ⟨j, ee, hj, rfl, rfl, HEe, HBq⟩ := hrel
              have HTq : Hid (RpW w wr K A I Y (some ⟨b2, o2, none⟩) M cap TB tn (.slice po C pc) acc) := HT13.out.next HBq.out
              have p1 : wr.cell? ⟨TB, 1, none⟩ = some (.slice po C pc) := HTq.out.p.cell 1
              have z0 : wr.cell? ⟨BK + 1, 0, none⟩ = some (.int .i64 (p : Int)) := (HZ13.out.next HBq.out).cell 0
              by_cases hjc : j < C
              · have hji : (j : Int) < (C : Int) := by omega
                have hj0 : (0 : Int) ≤ (j : Int) := by omega
                obtain ⟨s, hs⟩ : ∃ s, acc[j]? = some s := ⟨_, List.getElem?_eq_getElem (by rw [HC.out]; exact hjc)⟩
                obtain ⟨b4, o4, rfl, f0, -⟩ := (HI13.out.next HBq.out) j s hs
                have hst := hasP_step (p := p) hs
                obtain ⟨sp, sn, sv, sk, si, ss⟩ := s
                simp only at f0 hst
                clear hs HTq
                by_cases hsp : sp = p
                · have HE6 : Hid ((6 : Int) = if hasP (acc.take (j + 1)) p = true then 6 else 0) := by rw [Hid, hst, decide_eq_true hsp, Bool.or_true, if_pos rfl]
                  have hd : ((sp : Int) == (p : Int)) = true := by rw [hsp]; exact beq_self_eq_true _
                  clear hst hsp HEe
                  go_wp2
                  refine wp_region_held_drew (S := (fun w' => w'.cell? ⟨TB, 1, none⟩ = some (.slice (some ⟨b4, o4, none⟩) C pc) ∧ w'.cell? ⟨b4, o4 + j * 6, none⟩ = some (.int .i64 (sp : Int)) ∧ w'.cell? ⟨BK + 1, 0, none⟩ = some (.int .i64 (p : Int)))) (by kernel_rfl) ?_ (fun hHeldCP => ?_)
                  · exact ⟨p1, f0, z0⟩
                  refine wpAnyH_take (i := 0) (oi := { dst := some 73, op := Op.fieldAddr 49 (Operand.tmp 8) 1, type := 0, pos := "ref.go:83", after := #[], guard := none }) (v := ?_) rfl (by kernel_rfl) (by kernel_rfl) (by kernel_rfl) (fun _ _ _ h => h) (Or.inl ⟨by rfl, ?hyCP0⟩) (by assumption) ?_
                  case hyCP0 => (intro w hSw; (try dsimp only at hSw); go_simp; try with_reducible rfl)
                  (try simp only [Act.put, List.setIfInBounds_toArray, List.set_cons_zero, List.set_cons_succ])
                  refine wpAnyH_take (i := 1) (oi := { dst := some 74, op := Op.load 47 (Operand.tmp 73), type := 47, pos := "ref.go:83", after := #[{ on := 0, ground := Ground.data }], guard := none }) (v := ?_) rfl (by kernel_rfl) (by kernel_rfl) (by kernel_rfl) (fun _ _ _ h => h) (Or.inl ⟨by rfl, ?hyCP1⟩) (by assumption) ?_
                  case hyCP1 => (intro w hSw; (try dsimp only at hSw); go_simp; try with_reducible rfl)
                  (try simp only [Act.put, List.setIfInBounds_toArray, List.set_cons_zero, List.set_cons_succ])
                  refine wpAnyH_take (i := 2) (oi := { dst := some 75, op := Op.move (Operand.tmp 15), type := 3, pos := "ref.go:83", after := #[], guard := none }) (v := ?_) rfl (by kernel_rfl) (by kernel_rfl) (by kernel_rfl) (fun _ _ _ h => h) (Or.inl ⟨by rfl, ?hyCP2⟩) (by assumption) ?_
                  case hyCP2 => (intro w hSw; (try dsimp only at hSw); go_simp; try with_reducible rfl)
                  (try simp only [Act.put, List.setIfInBounds_toArray, List.set_cons_zero, List.set_cons_succ])
                  refine wpAnyH_take (i := 3) (oi := { dst := some 76, op := Op.indexAddr 47 (Operand.tmp 74) (Operand.tmp 75), type := 0, pos := "ref.go:83", after := #[{ on := 1, ground := Ground.data }, { on := 2, ground := Ground.data }], guard := none }) (v := ?_) rfl (by kernel_rfl) (by kernel_rfl) (by kernel_rfl) (fun _ _ _ h => h) (Or.inl ⟨by rfl, ?hyCP3⟩) (by assumption) ?_
                  case hyCP3 => (intro w hSw; (try dsimp only at hSw); go_simp; try with_reducible rfl)
                  (try simp only [Act.put, List.setIfInBounds_toArray, List.set_cons_zero, List.set_cons_succ])
                  refine wpAnyH_take (i := 4) (oi := { dst := some 77, op := Op.fieldAddr 125 (Operand.tmp 76) 0, type := 0, pos := "ref.go:83", after := #[{ on := 3, ground := Ground.data }], guard := none }) (v := ?_) rfl (by kernel_rfl) (by kernel_rfl) (by kernel_rfl) (fun _ _ _ h => h) (Or.inl ⟨by rfl, ?hyCP4⟩) (by assumption) ?_
                  case hyCP4 => (intro w hSw; (try dsimp only at hSw); go_simp; try with_reducible rfl)
                  (try simp only [Act.put, List.setIfInBounds_toArray, List.set_cons_zero, List.set_cons_succ])
                  refine wpAnyH_take (i := 5) (oi := { dst := some 78, op := Op.load 3 (Operand.tmp 77), type := 3, pos := "ref.go:83", after := #[{ on := 4, ground := Ground.data }], guard := none }) (v := ?_) rfl (by kernel_rfl) (by kernel_rfl) (by kernel_rfl) (fun _ _ _ h => h) (Or.inl ⟨by rfl, ?hyCP5⟩) (by assumption) ?_
                  case hyCP5 => (intro w hSw; (try dsimp only at hSw); go_simp; try with_reducible rfl)
                  (try simp only [Act.put, List.setIfInBounds_toArray, List.set_cons_zero, List.set_cons_succ])
                  refine wpAnyH_take (i := 6) (oi := { dst := some 79, op := Op.fieldAddr 125 (Operand.tmp 12) 0, type := 0, pos := "ref.go:83", after := #[], guard := none }) (v := ?_) rfl (by kernel_rfl) (by kernel_rfl) (by kernel_rfl) (fun _ _ _ h => h) (Or.inl ⟨by rfl, ?hyCP6⟩) (by assumption) ?_
                  case hyCP6 => (intro w hSw; (try dsimp only at hSw); go_simp; try with_reducible rfl)
                  (try simp only [Act.put, List.setIfInBounds_toArray, List.set_cons_zero, List.set_cons_succ])
                  refine wpAnyH_take (i := 7) (oi := { dst := some 80, op := Op.load 3 (Operand.tmp 79), type := 3, pos := "ref.go:83", after := #[{ on := 6, ground := Ground.data }], guard := none }) (v := ?_) rfl (by kernel_rfl) (by kernel_rfl) (by kernel_rfl) (fun _ _ _ h => h) (Or.inl ⟨by rfl, ?hyCP7⟩) (by assumption) ?_
                  case hyCP7 => (intro w hSw; (try dsimp only at hSw); go_simp; try with_reducible rfl)
                  (try simp only [Act.put, List.setIfInBounds_toArray, List.set_cons_zero, List.set_cons_succ])
                  refine wpAnyH_take (i := 8) (oi := { dst := some 81, op := Op.binOp BinOp.eql 3 (Operand.tmp 78) (Operand.tmp 80) 3, type := 4, pos := "ref.go:83", after := #[{ on := 5, ground := Ground.data }, { on := 7, ground := Ground.data }], guard := none }) (v := ?_) rfl (by kernel_rfl) (by kernel_rfl) (by kernel_rfl) (fun _ _ _ h => h) (Or.inl ⟨by rfl, ?hyCP8⟩) (by assumption) ?_
                  case hyCP8 => (intro w hSw; (try dsimp only at hSw); go_simp; try with_reducible rfl)
                  (try simp only [Act.put, List.setIfInBounds_toArray, List.set_cons_zero, List.set_cons_succ])
                  refine wpAnyH_done (by kernel_rfl) ?_ _
                  go_wp2
                  go_roundw
                  case rel => exact ⟨j + 1, 6, by omega, by go_num, rfl, HE6, HBq.out.drew⟩
                  case measure => simp [intOf]; omega
                · have HE6 : Hid (ee = if hasP (acc.take (j + 1)) p = true then 6 else 0) := by rw [Hid, hst, decide_eq_false hsp, Bool.or_false]; exact HEe.out
                  have hd : ((sp : Int) == (p : Int)) = false := by simp; omega
                  clear hst hsp HEe
                  go_wp2
                  refine wp_region_held_drew (S := (fun w' => w'.cell? ⟨TB, 1, none⟩ = some (.slice (some ⟨b4, o4, none⟩) C pc) ∧ w'.cell? ⟨b4, o4 + j * 6, none⟩ = some (.int .i64 (sp : Int)) ∧ w'.cell? ⟨BK + 1, 0, none⟩ = some (.int .i64 (p : Int)))) (by kernel_rfl) ?_ (fun hHeldCN => ?_)
                  · exact ⟨p1, f0, z0⟩
                  refine wpAnyH_take (i := 0) (oi := { dst := some 73, op := Op.fieldAddr 49 (Operand.tmp 8) 1, type := 0, pos := "ref.go:83", after := #[], guard := none }) (v := ?_) rfl (by kernel_rfl) (by kernel_rfl) (by kernel_rfl) (fun _ _ _ h => h) (Or.inl ⟨by rfl, ?hyCN0⟩) (by assumption) ?_
                  case hyCN0 => (intro w hSw; (try dsimp only at hSw); go_simp; try with_reducible rfl)
                  (try simp only [Act.put, List.setIfInBounds_toArray, List.set_cons_zero, List.set_cons_succ])
                  refine wpAnyH_take (i := 1) (oi := { dst := some 74, op := Op.load 47 (Operand.tmp 73), type := 47, pos := "ref.go:83", after := #[{ on := 0, ground := Ground.data }], guard := none }) (v := ?_) rfl (by kernel_rfl) (by kernel_rfl) (by kernel_rfl) (fun _ _ _ h => h) (Or.inl ⟨by rfl, ?hyCN1⟩) (by assumption) ?_
                  case hyCN1 => (intro w hSw; (try dsimp only at hSw); go_simp; try with_reducible rfl)
                  (try simp only [Act.put, List.setIfInBounds_toArray, List.set_cons_zero, List.set_cons_succ])
                  refine wpAnyH_take (i := 2) (oi := { dst := some 75, op := Op.move (Operand.tmp 15), type := 3, pos := "ref.go:83", after := #[], guard := none }) (v := ?_) rfl (by kernel_rfl) (by kernel_rfl) (by kernel_rfl) (fun _ _ _ h => h) (Or.inl ⟨by rfl, ?hyCN2⟩) (by assumption) ?_
                  case hyCN2 => (intro w hSw; (try dsimp only at hSw); go_simp; try with_reducible rfl)
                  (try simp only [Act.put, List.setIfInBounds_toArray, List.set_cons_zero, List.set_cons_succ])
                  refine wpAnyH_take (i := 3) (oi := { dst := some 76, op := Op.indexAddr 47 (Operand.tmp 74) (Operand.tmp 75), type := 0, pos := "ref.go:83", after := #[{ on := 1, ground := Ground.data }, { on := 2, ground := Ground.data }], guard := none }) (v := ?_) rfl (by kernel_rfl) (by kernel_rfl) (by kernel_rfl) (fun _ _ _ h => h) (Or.inl ⟨by rfl, ?hyCN3⟩) (by assumption) ?_
                  case hyCN3 => (intro w hSw; (try dsimp only at hSw); go_simp; try with_reducible rfl)
                  (try simp only [Act.put, List.setIfInBounds_toArray, List.set_cons_zero, List.set_cons_succ])
                  refine wpAnyH_take (i := 4) (oi := { dst := some 77, op := Op.fieldAddr 125 (Operand.tmp 76) 0, type := 0, pos := "ref.go:83", after := #[{ on := 3, ground := Ground.data }], guard := none }) (v := ?_) rfl (by kernel_rfl) (by kernel_rfl) (by kernel_rfl) (fun _ _ _ h => h) (Or.inl ⟨by rfl, ?hyCN4⟩) (by assumption) ?_
                  case hyCN4 => (intro w hSw; (try dsimp only at hSw); go_simp; try with_reducible rfl)
                  (try simp only [Act.put, List.setIfInBounds_toArray, List.set_cons_zero, List.set_cons_succ])
                  refine wpAnyH_take (i := 5) (oi := { dst := some 78, op := Op.load 3 (Operand.tmp 77), type := 3, pos := "ref.go:83", after := #[{ on := 4, ground := Ground.data }], guard := none }) (v := ?_) rfl (by kernel_rfl) (by kernel_rfl) (by kernel_rfl) (fun _ _ _ h => h) (Or.inl ⟨by rfl, ?hyCN5⟩) (by assumption) ?_
                  case hyCN5 => (intro w hSw; (try dsimp only at hSw); go_simp; try with_reducible rfl)
                  (try simp only [Act.put, List.setIfInBounds_toArray, List.set_cons_zero, List.set_cons_succ])
                  refine wpAnyH_take (i := 6) (oi := { dst := some 79, op := Op.fieldAddr 125 (Operand.tmp 12) 0, type := 0, pos := "ref.go:83", after := #[], guard := none }) (v := ?_) rfl (by kernel_rfl) (by kernel_rfl) (by kernel_rfl) (fun _ _ _ h => h) (Or.inl ⟨by rfl, ?hyCN6⟩) (by assumption) ?_
                  case hyCN6 => (intro w hSw; (try dsimp only at hSw); go_simp; try with_reducible rfl)
                  (try simp only [Act.put, List.setIfInBounds_toArray, List.set_cons_zero, List.set_cons_succ])
                  refine wpAnyH_take (i := 7) (oi := { dst := some 80, op := Op.load 3 (Operand.tmp 79), type := 3, pos := "ref.go:83", after := #[{ on := 6, ground := Ground.data }], guard := none }) (v := ?_) rfl (by kernel_rfl) (by kernel_rfl) (by kernel_rfl) (fun _ _ _ h => h) (Or.inl ⟨by rfl, ?hyCN7⟩) (by assumption) ?_
                  case hyCN7 => (intro w hSw; (try dsimp only at hSw); go_simp; try with_reducible rfl)
                  (try simp only [Act.put, List.setIfInBounds_toArray, List.set_cons_zero, List.set_cons_succ])
                  refine wpAnyH_take (i := 8) (oi := { dst := some 81, op := Op.binOp BinOp.eql 3 (Operand.tmp 78) (Operand.tmp 80) 3, type := 4, pos := "ref.go:83", after := #[{ on := 5, ground := Ground.data }, { on := 7, ground := Ground.data }], guard := none }) (v := ?_) rfl (by kernel_rfl) (by kernel_rfl) (by kernel_rfl) (fun _ _ _ h => h) (Or.inl ⟨by rfl, ?hyCN8⟩) (by assumption) ?_
                  case hyCN8 => (intro w hSw; (try dsimp only at hSw); go_simp; try with_reducible rfl)
                  (try simp only [Act.put, List.setIfInBounds_toArray, List.set_cons_zero, List.set_cons_succ])
                  refine wpAnyH_done (by kernel_rfl) ?_ _
                  go_wp2
                  go_roundw
                  case rel => exact ⟨j + 1, ee, by omega, by go_num, rfl, HE6, HBq.out.drew⟩
                  case measure => simp [intOf]; omega
              · have hji : ¬ (j : Int) < (C : Int) := by omega
                rw [show acc.take j = acc from List.take_of_length_le (by rw [HC.out]; omega)] at HEe
                have k1 : wr.cell? ⟨BK, 1, none⟩ = some (.int .i64 A2) := (HK13.out.next HBq.out).cell 1
                have hbw : w.heap.size + 2 < wr.heap.size := HTq.out.q.g.lt
                cases hhp : hasP acc p with
                | true =>
                  obtain rfl : ee = 6 := by rw [HEe.out, hhp]; rfl
                  have HEr : Hid (parP L x = .error (y.a, 6)) := HErr.out 6 (by rw [HEp.out, hhp]; rfl)
                  clear HErr HRun HEp hhp HEe HI13 z0
                  go_wp2_with fail
                  refine (HAt.out A2 6 _).mono ?_
                  rintro e w9 ⟨⟨bq, rfl, hbq, hpq⟩, hb9⟩
                  have HT9 : Hid (RqW w w9 K A I Y (some ⟨b2, o2, none⟩) M cap) := HTq.out.q.next hb9
                  have r0 : w9.cell? ⟨w.heap.size + 1, 0, none⟩ = some (.string ⟨#[]⟩) := HT9.out.r.cell 0
                  have r1 : w9.cell? ⟨w.heap.size + 1, 1, none⟩ = some (.slice none 0 0) := HT9.out.r.cell 1
                  have rf := HT9.out.r.froz
                  have g0 : w9.cell? ⟨w.heap.size + 2, 0, none⟩ = some (.slice none 0 0) := HT9.out.g.cell 0
                  have g1 : w9.cell? ⟨w.heap.size + 2, 1, none⟩ = some (.int .i64 0) := HT9.out.g.cell 1
                  have gf := HT9.out.g.froz
                  have HB9 : Hid (Below w.heap.size w w9) := HT9.out.bel
                  have HPq : Hid (PtAt w9 bq ((y.a : Nat) : Int)) := by rw [HA2.out]; exact hpq
                  have hbq2 : w.heap.size + 2 < bq := by omega
                  clear HT9 hb9 hpq hbq
                  go_wp2
                  refine bodyPost_ret (v := .tuple #[.agg #[.string ⟨#[]⟩, .slice none 0 0], .agg #[.slice (some ⟨bq, 0, none⟩) 1 1, .int .i64 6]]) (by simp [results, Tryz.results13, go_sem, r0, r1, g0, g1]) rfl ?_
                  exact pr_bad HEr.out HB9.out hbq2 HPq.out
                | false =>
                  obtain rfl : ee = 0 := by rw [HEe.out, hhp]; rfl
                  have HEq2 : Hid (E = pickT p Q) := by rw [Hid, HEp.out, hhp]; rfl
                  clear HEp hhp HEe
                  have HEo : Hid (nextR tl acc y = .ok ⟨p, tnn, tv, tk, ti, ts⟩) := by
                    rw [Hid, HE.out, HEq2.out]
                    have h1 := Hok.out
                    cases Q with
                    | none => cases h1
                    | some t => have := HTq0.out t rfl; subst this; rfl
                  have HRun2 : Hid (runP tl (acc ++ [⟨p, tnn, tv, tk, ti, ts⟩]) (x.l.drop (i + 1)) = runP tl [] (x.l.drop 1)) := by
                    have := HRun.out
                    rw [runp_step HYk.out, HEo.out] at this
                    exact this
                  obtain ⟨z0, z1, z2, z3, z4, z5⟩ : wr.cell? ⟨BK + 1, 0, none⟩ = some (.int .i64 (p : Int)) ∧ wr.cell? ⟨BK + 1, 1, none⟩ = some (.bool tnn) ∧ wr.cell? ⟨BK + 1, 2, none⟩ = some (.string tv) ∧ wr.cell? ⟨BK + 1, 3, none⟩ = some (.int .i64 tk) ∧ wr.cell? ⟨BK + 1, 4, none⟩ = some (.int .i64 ti) ∧ wr.cell? ⟨BK + 1, 5, none⟩ = some (.string ts) := by
                    have h := HZ13.out.next HBq.out
                    exact ⟨h.cell 0, h.cell 1, h.cell 2, h.cell 3, h.cell 4, h.cell 5⟩
                  obtain ⟨i0, hi, hz0, hz1, hz2⟩ := infoRTs'
                  have HO : Hid (wr.ownsRow (TB + 1) 125 6 (.slice po C pc) C (tsC acc)) := by have := HTq.out.own; rw [HC.out] at this; exact this
                  have HOb : Hid (∀ j, (Value.slice po C pc).ownBlock = some j → TB + 1 ≤ j ∧ j < wr.heap.size) := fun j hj => HO.out.lt j hj
                  have htb2 : TB < wr.heap.size := HTq.out.p.lt
                  clear HEq2 HErr HEo HRun HI13 k1 hbw
                  go_wp2_with (at_builtin; refine wpList_append_lies _ rfl _ _ 47 rfl (TB + 1) 125 i0 zeroTs 6 64 Tryz.underlying47 hi hz0 hz1 hz2 rfl (by decide) _ _ _ rfl (HO.out.alloc _) ⟨wr.heap.size, 0, none⟩ 1 1 [.int .i64 (p : Int), .bool tnn, .string tv, .int .i64 tk, .int .i64 ti, .string ts] rfl rfl ?e1 ?e2 (by decide) ?e3 ?e4 ?e5 _ rfl ?_)
                  case e2 => simp [Value.oneCell']
                  case e3 => unfold maxLen; omega
                  case e4 => omega
                  case e5 => omega
                  intro gk gcap w7 ho hg hv7 hlt7
                  have hgb : ∀ j, j < TB + 1 → w7.heap[j]? = wr.heap[j]? := fun j hj => by
                    rw [hg.block j (by simp; omega) (fun e => by have := (HOb.out j e.symm).1; omega), Below.heap_alloc _ _ _ (by omega)]
                  have hO3 : w7.ownsRow (TB + 1) 125 6 (.slice (some ⟨gk, 0, none⟩) (C + 1) gcap) (C + 1) (tsC (acc ++ [(⟨p, tnn, tv, tk, ti, ts⟩ : Ts)])) := by rw [← tsC_snoc]; exact ho
                  have hB3 : Below w.heap.size w w7 := by
                    have hs := HTq.out.q.bel.size
                    refine HTq.out.q.bel.trans (((Below.refl _ wr).alloc hs _).grown hg (by simp; omega) (fun j hj => ?_))
                    have := (HOb.out j hj).1
                    omega
                  have t7 : w7.cell? ⟨TB, 1, none⟩ = some (.slice po C pc) := (HTq.out.p.keep (hgb _ (by omega))).cell 1
                  have tf := (HTq.out.p.keep (hgb _ (by omega))).froz
                  have HN3 : Hid (RpW w (w7.setCell ⟨TB, 1, none⟩ (.slice (some ⟨gk, 0, none⟩) (C + 1) gcap)) K A I Y (some ⟨b2, o2, none⟩) M cap TB tn (.slice (some ⟨gk, 0, none⟩) (C + 1) gcap) (acc ++ [(⟨p, tnn, tv, tk, ti, ts⟩ : Ts)])) := by
                    refine ⟨⟨set_bel hB3 (by omega), (HTq.out.q.n.keep (hgb _ (by omega))).off (by omega) _ _, (HTq.out.q.r.keep (hgb _ (by omega))).off (by omega) _ _, (HTq.out.q.g.keep (hgb _ (by omega))).off (by omega) _ _⟩, (HTq.out.p.keep (hgb _ (by omega))).set 1 _, ?_, hlt3⟩
                    rw [List.length_append, HC.out]
                    exact ownsRow_setCell_below hO3 (by show TB < TB + 1; omega) _
                  have HCe : Hid ((acc ++ [(⟨p, tnn, tv, tk, ti, ts⟩ : Ts)]).length = C + 1) := by rw [Hid, List.length_append, HC.out]; rfl
                  clear ho hg hv7 hlt7 hgb hO3 hB3 HTq HO HOb p1 z0 z1 z2 z3 z4 z5 hi hz0 hz1 hz2 HE
                  go_wp2
                  go_roundw
                  case rel => exact ⟨i + 1, acc ++ [(⟨p, tnn, tv, tk, ti, ts⟩ : Ts)], _, by omega, by omega, by go_num, HN3, by rw [Hid, HCe.out, ← Hak.out], HRun2⟩
                  case measure => simp [intOf]; omega
        · have hki : ¬ (i : Int) < (M : Int) := by omega
          have HEr : Hid (parP L x = .ok ⟨tn, acc⟩) := by
            have := HRun.out
            rw [List.drop_of_length_le (by rw [HMx.out]; omega)] at this
            rw [HP.out, ← this]; rfl
          have r0 : wr.cell? ⟨w.heap.size + 1, 0, none⟩ = some (.string ⟨#[]⟩) := HT.out.q.r.cell 0
          have r1 : wr.cell? ⟨w.heap.size + 1, 1, none⟩ = some (.slice none 0 0) := HT.out.q.r.cell 1
          have rf := HT.out.q.r.froz
          have g0 : wr.cell? ⟨w.heap.size + 2, 0, none⟩ = some (.slice none 0 0) := HT.out.q.g.cell 0
          have g1 : wr.cell? ⟨w.heap.size + 2, 1, none⟩ = some (.int .i64 0) := HT.out.q.g.cell 1
          have gf := HT.out.q.g.froz
          have p0 : wr.cell? ⟨TB, 0, none⟩ = some (.string tn) := HT.out.p.cell 0
          have p1 : wr.cell? ⟨TB, 1, none⟩ = some (.slice po C pc) := HT.out.p.cell 1
          have hne : ∀ b o, po = some ⟨b, o, none⟩ → TB + 1 ≤ b := fun b o e => by
            subst e
            exact (HT.out.own.lt b rfl).1
          have HSe : Hid (IsTss ((((wr.setCell ⟨w.heap.size + 1, 0, none⟩ (.string tn)).setCell ⟨w.heap.size + 1, 1, none⟩ (.slice po C pc)).setCell ⟨w.heap.size + 2, 0, none⟩ (.slice none 0 0)).setCell ⟨w.heap.size + 2, 1, none⟩ (.int .i64 0)) po acc) :=
            (((HIs.out.set (fun b o e => by have := hne b o e; omega)).set (fun b o e => by have := hne b o e; omega)).set (fun b o e => by have := hne b o e; omega)).set (fun b o e => by have := hne b o e; omega)
          have HBe : Hid (Below w.heap.size w ((((wr.setCell ⟨w.heap.size + 1, 0, none⟩ (.string tn)).setCell ⟨w.heap.size + 1, 1, none⟩ (.slice po C pc)).setCell ⟨w.heap.size + 2, 0, none⟩ (.slice none 0 0)).setCell ⟨w.heap.size + 2, 1, none⟩ (.int .i64 0))) := set_bel (set_bel (set_bel (set_bel HT.out.q.bel (by omega)) (by omega)) (by omega)) (by omega)
          clear hsl2 hcap2 HT HRun HP HIs hne
          go_wp2
          exact bodyPost_ret (v := .tuple #[.agg #[.string tn, .slice po C pc], .agg #[.slice none 0 0, .int .i64 0]]) (by simp [results, Tryz.results13, go_sem, r0, r1, g0, g1]) rfl ⟨HBe.out, .inl ⟨⟨tn, acc⟩, po, pc, HEr.out, by unfold ptV; simp only; rw [HC.out], HSe.out⟩⟩
end Go.Proofs.YtnhbjhdkpbhioaaGreatDoor
