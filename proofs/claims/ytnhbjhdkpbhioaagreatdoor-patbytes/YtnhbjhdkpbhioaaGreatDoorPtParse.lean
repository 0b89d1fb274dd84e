import Derived.Test.YtnhbjhdkpbhioaaGreatDoorH1
import Derived.Test.YtnhbjhdkpbhioaaGreatDoorG24
import Derived.Deep.RegionWith
namespace Go.Proofs.YtnhbjhdkpbhioaaGreatDoor
open Go.RowKit
theorem parP_head {L : List Tp} {x : Nd} (h : hasH x = false) : parP L x = .error (x.a, 2) := by
  unfold hasH at h
  unfold parP
  cases e : headO x with
  | none => rfl
  | some s => rw [e] at h; cases h
theorem parP_name {L : List Tp} {x : Nd} {s : List UInt8} (h : headO x = some s) (h2 : plT L (baL s) = none) : parP L x = .error (x.a, 5) := by
  unfold parP
  rw [h]
  simp only
  rw [h2]
theorem parP_go {L : List Tp} {x : Nd} {s : List UInt8} {q : Nat} (h : headO x = some s) (h2 : plT L (baL s) = some q) : parP L x = match runP (tpAt L (baL s)).l [] (x.l.drop 1) with
    | .ok l => .ok ⟨baL s, l⟩
    | .error p => .error p := by
  unfold parP
  rw [h]
  simp only
  rw [h2, (tpAt_slots h2).1, List.drop_one]
  rfl
theorem runp_step {T : List Sl} {acc : List Ts} {l : List Nd} {k : Nat} {x : Nd} (h : l[k]? = some x) : runP T acc (l.drop k) = match nextR T acc x with
    | .error e => .error (x.a, e)
    | .ok s => runP T (acc ++ [s]) (l.drop (k + 1)) := by
  obtain ⟨hk, e⟩ := List.getElem?_eq_some_iff.1 h
  rw [List.drop_eq_getElem_cons hk, e]
  rfl
structure PpR (L : List Tp) (x : Nd) (w w' : World) (e : Ending) : Prop where
  bel : Below w.heap.size w w'
  res : (∃ p ao cap, parP L x = .ok p ∧ e = .returned (.tuple #[ptV p ao cap, .nilIface]) ∧ IsTss w' ao p.l) ∨
    (∃ (a : Nat) (f : Int) (B : Nat), parP L x = .error (a, f) ∧ e = .returned (.tuple #[.agg #[.string ⟨#[]⟩, .slice none 0 0], .iface 133 (.pointer (some ⟨B, 0, none⟩))]) ∧ FaultAt w' B (a : Int) f)
theorem pp_fault {L : List Tp} {x : Nd} {w w3 : World} {a : Nat} {f : Int} {b B : Nat} (he : parP L x = .error (a, f)) (hB : Below w.heap.size w w3) (hb : w.heap.size ≤ b) (hn : B ≠ b) (hf : FaultAt w3 B (a : Int) f) :
    PpR L x w ((w3.setCell ⟨b, 0, none⟩ (.string ⟨#[]⟩)).setCell ⟨b, 1, none⟩ (.slice none 0 0)) (.returned (.tuple #[.agg #[.string ⟨#[]⟩, .slice none 0 0], .iface 133 (.pointer (some ⟨B, 0, none⟩))])) := by
  refine ⟨set_bel (set_bel hB hb) hb, .inr ⟨a, f, B, he, rfl, ?_⟩⟩
  unfold FaultAt at hf ⊢
  rw [Below.heap_setCell _ _ _ _ hn, Below.heap_setCell _ _ _ _ hn]; exact hf
structure PqW (w wr : World) (K A I : Int) (Y : ByteArray) (ao : Option Addr) (M cap : Nat) : Prop where
  bel : Below w.heap.size w wr
  n : Bx wr w.heap.size #[.int .i64 K, .int .i64 A, .int .i64 I, .string Y, .slice ao M cap]
  r : Bx wr (w.heap.size + 1) #[.string ⟨#[]⟩, .slice none 0 0]
theorem PqW.next {w wr w' : World} {K A I : Int} {Y : ByteArray} {ao : Option Addr} {M cap : Nat} (h : PqW w wr K A I Y ao M cap) (hb : Below wr.heap.size wr w') : PqW w w' K A I Y ao M cap :=
  ⟨next_trans h.bel hb, h.n.next hb, h.r.next hb⟩
structure PpW (w wr : World) (K A I : Int) (Y : ByteArray) (ao : Option Addr) (M cap TT TB : Nat) (tn : ByteArray) (to : Option Addr) (N tc : Nat) (v : Value) (acc : List Ts) : Prop where
  q : PqW w wr K A I Y ao M cap
  t : Bx wr TT #[.string tn, .slice to N tc]
  p : Bx wr TB #[.string tn, v]
  own : wr.ownsRow (TB + 1) 88 6 v acc.length (tsC acc)
  lt : w.heap.size + 1 < TT
  lt2 : TT < TB
theorem PpW.next {w wr w' : World} {K A I : Int} {Y : ByteArray} {ao : Option Addr} {M cap TT TB : Nat} {tn : ByteArray} {to : Option Addr} {N tc : Nat} {v : Value} {acc : List Ts} (h : PpW w wr K A I Y ao M cap TT TB tn to N tc v acc) (hb : Below wr.heap.size wr w') : PpW w w' K A I Y ao M cap TT TB tn to N tc v acc :=
  ⟨h.q.next hb, h.t.next hb, h.p.next hb, own_next h.own hb, h.lt, h.lt2⟩
set_option maxHeartbeats 8000000 in
set_option maxRecDepth 8000 in
theorem pparse_any (L : List Tp) (LN : Nat) (lo : Option Addr) (lc : Nat) (x : Nd) (ao : Option Addr) (cap : Nat) (w : World) (hLN : L.length = LN) (hL : LN ≤ 1000) (hT : ∀ t ∈ L, t.l.length ≤ 1000) (ht : IsTps w lo L) (hb : cntN x ≤ 100000) (hc : x.l.length ≤ cap) (hk : IsNds w anyB ao x.l) :
    Calls Tryz.prog 11 #[ndV x ao cap, .slice lo LN lc] w fun e w' => PpR L x w w' e := by
  have hcl : x.l.length ≤ 100000 := by have h1 := cntL_len x.l; unfold cntN at hb; omega
  have HKid : Hid (∀ y ∈ x.l, cntN y ≤ 100000) := fun y hy => by have h1 := cntL_mem x.l y hy; unfold cntN at hb; omega
  obtain ⟨q, Hq⟩ : ∃ q, Hid (hasH x = q) := ⟨_, rfl⟩
  have HHd : Hid (∀ w', Below w.heap.size w w' → Calls Tryz.prog 43 #[ndV x ao cap] w' fun e w2 => e = .returned (.bool q) ∧ Below w'.heap.size w' w2) := by
    rw [← Hq.out]; exact fun w' h => hashead_any x ao cap w' hc (hk.next h)
  obtain ⟨K, A, I, Y, M, H, Hx⟩ := nd_open x ao cap
  have hML := Hx.out.2.2.2.2
  have HCL : Hid (x.l.length ≤ cap) := hc
  rw [hML] at hcl hc
  have HK : Hid (IsNds w anyB ao x.l) := hk
  rw [H.out] at HHd ⊢
  have HAx : Hid ((x.a : Int) = A) := Hx.out.2.1
  have HMx : Hid (x.l.length = M) := hML
  have HTs : Hid (∀ t ∈ L, t.l.length ≤ 1000) := hT
  have HPf : Hid (∀ w' m, Below w.heap.size w w' → Calls Tryz.prog 45 #[.slice lo LN lc, .string m] w' fun e w2 => (∃ to tc, e = .returned (.tuple #[tmV (tpAt L m) to tc, .bool (plT L m).isSome]) ∧ IsSls w' to (tpAt L m).l) ∧ Below w'.heap.size w' w2) :=
    fun w' m h => pfind_any L LN lo lc m w' hLN hL (ht.next h)
  obtain ⟨W, HWe⟩ : ∃ W, Hid ((w.alloc (.cells #[.int .i64 K, .int .i64 A, .int .i64 I, .string Y, .slice ao M cap] 43)).alloc (.cells #[.string ⟨#[]⟩, .slice none 0 0] 36) = W) := ⟨_, rfl⟩
  have HQW : Hid (PqW w W K A I Y ao M cap) := by
    refine ⟨?_, ?_, ?_⟩
    · rw [← HWe.out]; exact next_trans (alloc_below _ _) (alloc_below _ _)
    · rw [← HWe.out]; exact (Bx.made _ _ _).alloc _
    · exact Bx.made' HWe.out (by simp)
  have n0 : W.cell? ⟨w.heap.size, 0, none⟩ = some (.int .i64 K) := HQW.out.n.cell 0
  have n1 : W.cell? ⟨w.heap.size, 1, none⟩ = some (.int .i64 A) := HQW.out.n.cell 1
  have n2 : W.cell? ⟨w.heap.size, 2, none⟩ = some (.int .i64 I) := HQW.out.n.cell 2
  have n3 : W.cell? ⟨w.heap.size, 3, none⟩ = some (.string Y) := HQW.out.n.cell 3
  have n4 : W.cell? ⟨w.heap.size, 4, none⟩ = some (.slice ao M cap) := HQW.out.n.cell 4
  clear hk hML hb Hx H hLN ht hT hL
  go_enter Tryz.func11, Tryz.ntmps11
  go_wp2_with fail
  rw [HWe.out]
  clear HWe
  refine (HHd.out W HQW.out.bel).mono ?_
  rintro e w1 ⟨rfl, hb1⟩
  have HQ1 : Hid (PqW w w1 K A I Y ao M cap) := HQW.out.next hb1
  have hlt : w.heap.size + 1 < w1.heap.size := HQ1.out.r.lt
  clear hb1 HHd HQW n0 n1 n2 n3 n4
  have n1 : w1.cell? ⟨w.heap.size, 1, none⟩ = some (.int .i64 A) := HQ1.out.n.cell 1
  have n4 : w1.cell? ⟨w.heap.size, 4, none⟩ = some (.slice ao M cap) := HQ1.out.n.cell 4
  cases q with
  | false =>
    have HE : Hid (parP L x = .error (x.a, 2)) := parP_head Hq.out
    clear HK HKid Hq HPf
    go_wp2_with fail
    refine (pfault_any A 2 w1).mono ?_
    rintro e wf ⟨rfl, hf2, hb2⟩
    have HRf := HQ1.out.next hb2
    have r0 : wf.cell? ⟨w.heap.size + 1, 0, none⟩ = some (.string ⟨#[]⟩) := HRf.r.cell 0
    have r1 : wf.cell? ⟨w.heap.size + 1, 1, none⟩ = some (.slice none 0 0) := HRf.r.cell 1
    have rf := HRf.r.froz
    have HB2 : Hid (Below w.heap.size w wf) := HRf.bel
    have HF2 : Hid (FaultAt wf w1.heap.size (x.a : Int) 2) := by rw [HAx.out]; exact hf2
    clear hb2 HRf hf2
    go_wp2
    exact bodyPost_ret (v := .tuple #[.agg #[.string ⟨#[]⟩, .slice none 0 0], .iface 133 (.pointer (some ⟨w1.heap.size, 0, none⟩))]) (by simp [results, Tryz.results11, go_sem, r0, r1]) rfl (pp_fault HE.out HB2.out (by omega) (by omega) HF2.out)
  | true =>
    obtain ⟨m, r, hl, hmk, hho⟩ := hasH_get Hq.out
    have hy0 : x.l[0]? = some m := by rw [hl]; rfl
    have hM1 : 1 ≤ M := by rw [← HMx.out, hl, List.length_cons]; omega
    have hM1i : (1 : Int) ≤ (M : Int) := by omega
    obtain ⟨b, o, va, vc, K1, A1, I1, Y1, M1, rfl, H1, Hv, hw1, _⟩ := kid_get (HK.out.next HQ1.out.bel) hy0
    have HY1 : Hid (baL m.s = Y1) := Hv.out.2.2.2.1
    have HHo : Hid (headO x = some m.s) := hho
    obtain ⟨T, HT⟩ : ∃ T, Hid (tpAt L Y1 = T) := ⟨_, rfl⟩
    obtain ⟨pq, Hpq⟩ : ∃ pq, Hid (plT L Y1 = pq) := ⟨_, rfl⟩
    obtain ⟨ok, Hok⟩ : ∃ ok, Hid ((plT L Y1).isSome = ok) := ⟨_, rfl⟩
    have HPF : Hid (Calls Tryz.prog 45 #[.slice lo LN lc, .string Y1] w1 fun e w2 => (∃ to tc, e = .returned (.tuple #[tmV T to tc, .bool ok]) ∧ IsSls w1 to T.l) ∧ Below w1.heap.size w1 w2) := by
      rw [← HT.out, ← Hok.out]; exact HPf.out w1 Y1 HQ1.out.bel
    obtain ⟨c0, c1, c2, c3, c4⟩ := hw1
    rw [Nat.zero_mul, Nat.add_zero] at c0 c1 c2 c3 c4
    clear hl hmk hho hy0 H1 Hv HPf Hq
    go_wp2_with fail
    refine HPF.out.mono ?_
    rintro e w2 ⟨⟨to, tc, rfl, hs2⟩, hb2⟩
    obtain ⟨tn, tl⟩ := T
    obtain ⟨N, HN⟩ : ∃ N, Hid (tl.length = N) := ⟨_, rfl⟩
    unfold tmV
    simp only at hs2 ⊢
    rw [HN.out]
    have HSl1 : Hid (IsSls w1 to tl) := hs2
    have HB12 : Hid (Below w1.heap.size w1 w2) := hb2
    have hlt12 : w1.heap.size ≤ w2.heap.size := hb2.size
    have HQ2 : Hid (PqW w w2 K A I Y (some ⟨b, o, none⟩) M cap) := HQ1.out.next hb2
    have hlt2 : w.heap.size + 1 < w2.heap.size := HQ2.out.r.lt
    clear hb2 hs2 HQ1 HPF n1 n4 c0 c1 c2 c3 c4 hlt
    obtain ⟨TT, HTT⟩ : ∃ TT, Hid (w2.heap.size = TT) := ⟨_, rfl⟩
    obtain ⟨W3, HW3⟩ : ∃ W3, Hid (w2.alloc (.cells #[.string tn, .slice to N tc] 108) = W3) := ⟨_, rfl⟩
    have HQ3 : Hid (PqW w W3 K A I Y (some ⟨b, o, none⟩) M cap) := by rw [← HW3.out]; exact HQ2.out.next (alloc_below _ _)
    have HX3 : Hid (Bx W3 TT #[.string tn, .slice to N tc]) := Bx.made' HW3.out HTT.out
    have hltT : w.heap.size + 1 < TT := by rw [← HTT.out]; exact hlt2
    have hlt3 : TT < W3.heap.size := HX3.out.lt
    cases pq with
    | none =>
      obtain rfl : ok = false := by rw [← Hok.out, Hpq.out]; rfl
      have HE : Hid (parP L x = .error (x.a, 5)) := parP_name HHo.out (by rw [HY1.out]; exact Hpq.out)
      have n1 : (w2.alloc (.cells #[.string tn, .slice to N tc] 108)).cell? ⟨w.heap.size, 1, none⟩ = some (.int .i64 A) := (HQ2.out.next (alloc_below _ _)).n.cell 1
      clear HK HKid HTT HHo Hpq Hok HT HSl1 HX3
      go_wp2_with fail
      rw [HW3.out]
      refine (pfault_any A 5 W3).mono ?_
      rintro e wf ⟨rfl, hf2, hb2⟩
      have HRf := HQ3.out.next hb2
      have r0 : wf.cell? ⟨w.heap.size + 1, 0, none⟩ = some (.string ⟨#[]⟩) := HRf.r.cell 0
      have r1 : wf.cell? ⟨w.heap.size + 1, 1, none⟩ = some (.slice none 0 0) := HRf.r.cell 1
      have rf := HRf.r.froz
      have HB2 : Hid (Below w.heap.size w wf) := HRf.bel
      have HF2 : Hid (FaultAt wf W3.heap.size (x.a : Int) 5) := by rw [HAx.out]; exact hf2
      clear hb2 HRf hf2
      go_wp2
      exact bodyPost_ret (v := .tuple #[.agg #[.string ⟨#[]⟩, .slice none 0 0], .iface 133 (.pointer (some ⟨W3.heap.size, 0, none⟩))]) (by simp [results, Tryz.results11, go_sem, r0, r1]) rfl (pp_fault HE.out HB2.out (by omega) (by omega) HF2.out)
    | some q =>
      obtain rfl : ok = true := by rw [← Hok.out, Hpq.out]; rfl
      obtain ⟨Lr, HLr⟩ : ∃ Lr, Hid (x.l.drop 1 = Lr) := ⟨_, rfl⟩
      have HP : Hid (parP L x = match runP tl [] Lr with
        | .ok l => .ok ⟨tn, l⟩
        | .error p => .error p) := by
        have h1 := parP_go (L := L) (x := x) HHo.out (by rw [HY1.out]; exact Hpq.out)
        have h2 := (tpAt_slots (L := L) (n := Y1) Hpq.out).2
        rw [HT.out] at h2
        simp only at h2
        rw [HY1.out, HT.out, HLr.out, ← h2] at h1
        exact h1
      have HN1 : Hid (tl.length ≤ 1000) := by
        obtain ⟨t, h1, h2, _⟩ := plT_some L Y1 q Hpq.out
        have h3 := HTs.out t (List.mem_of_getElem? h1)
        have h4 := tpAt_at Hpq.out h1
        rw [HT.out] at h4
        rw [← h4] at h3
        exact h3
      have HLn : Hid (Lr.length = M - 1) := by rw [Hid, ← HLr.out, List.length_drop, HMx.out]
      have HKL : Hid (∀ y ∈ Lr, cntN y ≤ 100000) := fun y hy => HKid.out y (by rw [← HLr.out] at hy; exact List.mem_of_mem_drop hy)
      have HKN : Hid (IsNds w anyB (fromD (some ⟨b, o, none⟩) cap 1) Lr) := by rw [Hid, ← HLr.out]; exact HK.out.dropD HCL.out 1
      have hsl : ∀ w, (Instr.slice 41 (.slice (some ⟨b, o, none⟩) M cap) (some (.int .i64 1)) none none).run Tryz.prog w = .ok (.slice (fromD (some ⟨b, o, none⟩) cap 1) (M - 1) (cap - 1)) w := fun w => nodes_from _ _ _ 1 1 w rfl (by omega)
      obtain ⟨TB, HTB⟩ : ∃ TB, Hid (TT + 1 = TB) := ⟨_, rfl⟩
      obtain ⟨W4, HW4⟩ : ∃ W4, Hid ((w2.alloc (.cells #[.string tn, .slice to N tc] 108)).alloc (.cells #[.string tn, .slice none 0 0] 36) = W4) := ⟨_, rfl⟩
      have HT0 : Hid (PpW w W4 K A I Y (some ⟨b, o, none⟩) M cap TT TB tn to N tc (.slice none 0 0) []) := by
        rw [Hid, ← HW4.out, ← HTB.out, ← HTT.out]
        exact ⟨(HQ2.out.next (alloc_below _ _)).next (alloc_below _ _), (Bx.made _ _ _).alloc _, Bx.made' rfl (by simp), World.ownsRow_nil _ _ _ _, hlt2, Nat.lt_succ_self _⟩
      have HB14 : Hid (Below w1.heap.size w1 W4) := by rw [← HW4.out]; exact next_trans (next_trans HB12.out (alloc_below _ _)) (alloc_below _ _)
      have hltW : w1.heap.size ≤ TT := by rw [← HTT.out]; exact hlt12
      have m4 : w2.cell? ⟨w.heap.size, 4, none⟩ = some (.slice (some ⟨b, o, none⟩) M cap) := HQ2.out.n.cell 4
      have hl2 : w.heap.size < w2.heap.size := by omega
      clear HK HKid HHo Hpq Hok HT HX3 HQ2 HQ3 HTs HCL HMx HLr HY1 HB12
      obtain ⟨fo, Hfo⟩ : ∃ fo, Hid (fromD (some ⟨b, o, none⟩) cap 1 = fo) := ⟨_, rfl⟩
      rw [Hfo.out] at hsl HKN
      clear Hfo
      obtain ⟨NN, HNN⟩ : ∃ NN, Hid (M - 1 = NN) := ⟨_, rfl⟩
      rw [HNN.out] at hsl HLn
      have hNb : NN ≤ 100000 := by have := HNN.out; omega
      clear HNN
      go_wp2
      rw [HW4.out, HTT.out, HTB.out]
      clear HW4 HW3 HTB m4 hl2 hsl
      go_loopw [43] (fun q wr => ∃ (k : Nat) (acc : List Ts) (v : Value), k ≤ NN ∧ q = .int .i64 k ∧ acc.length ≤ 100000 ∧ Hid (PpW w wr K A I Y (some ⟨b, o, none⟩) M cap TT TB tn to N tc v acc) ∧ Hid (Below w1.heap.size w1 wr) ∧ Hid (acc.length = k) ∧ Hid (runP tl acc (Lr.drop k) = runP tl [] Lr)) (fun q _ => NN - (intOf q).toNat)
      case atStart => exact ⟨0, [], _, Nat.zero_le _, rfl, Nat.zero_le _, HT0, HB14, rfl, by rw [Hid, List.drop_zero]⟩
      case round =>
        obtain ⟨k, acc, v, hk, rfl, hak, HT, HB4, Hak, HRun⟩ := hrel
        clear HT0 HB14
        have hlt3 := HT.out.lt
        have hlt4 := HT.out.lt2
        have htb := HT.out.p.lt
        obtain ⟨po, pc, hv, hsl2, hcap2⟩ := own_tss Hak.out (by have := HT.out.own; rw [Hak.out] at this; exact this)
        subst hv
        have HIs : Hid (IsTss wr po acc) := hsl2
        by_cases hlt : k < NN
        · have hki : (k : Int) < (NN : Int) := by omega
          have hk0 : (0 : Int) ≤ (k : Int) := by omega
          obtain ⟨y, hy⟩ := kid_at (l := Lr) (j := k) (by rw [HLn.out]; exact hlt)
          obtain ⟨b2, o2, ya, yc, K2, A2, I2, Y2, M2, rfl, H2, Hy2, hw2, Hk2⟩ := kid_get (HKN.out.next HT.out.q.bel) hy
          have hyk := HKL.out y (List.mem_of_getElem? hy)
          have HYk : Hid (Lr[k]? = some y) := hy
          obtain ⟨E, HE⟩ : ∃ E, Hid (nextR tl acc y = E) := ⟨_, rfl⟩
          have HPn : Hid (∀ w', Below wr.heap.size wr w' → Calls Tryz.prog 46 #[.agg #[.string tn, .slice po k pc], .agg #[.int .i64 (K2), .int .i64 (A2), .int .i64 (I2), .string (Y2), .slice ya M2 yc], .agg #[.string tn, .slice to N tc]] w' fun e w2 => NxR E e ∧ Below w'.heap.size w' w2) := by
            intro w' hw
            have := pnextt_any ⟨tn, acc⟩ po pc y ya yc ⟨tn, tl⟩ to tc w' (by show acc.length ≤ _; exact hak) (HIs.out.next hw) Hk2.out.1 hyk (Hk2.out.2.next hw) HN1.out (HSl1.out.next (next_trans HB4.out hw))
            unfold tmV ptV at this
            simp only at this
            rw [HE.out, H2.out, Hak.out, HN.out] at this
            exact this
          have HA2 : Hid ((y.a : Int) = A2) := Hy2.out.2.1
          obtain ⟨c0, c1, c2, c3, c4⟩ := hw2
          have t0 : wr.cell? ⟨TT, 0, none⟩ = some (.string tn) := HT.out.t.cell 0
          have t1 : wr.cell? ⟨TT, 1, none⟩ = some (.slice to N tc) := HT.out.t.cell 1
          have p0 : wr.cell? ⟨TB, 0, none⟩ = some (.string tn) := HT.out.p.cell 0
          have p1 : wr.cell? ⟨TB, 1, none⟩ = some (.slice po k pc) := by have := HT.out.p.cell 1; exact this
          have htt : TT < wr.heap.size := HT.out.t.lt
          obtain ⟨BK, HBK⟩ : ∃ BK, Hid (wr.heap.size = BK) := ⟨_, rfl⟩
          clear hy hyk hsl2 hcap2 H2 Hy2 Hk2
          go_wp2_with fail
          refine (HPn.out _ (alloc_below _ _)).mono ?_
          rintro e w5 ⟨⟨⟨ep, enn, ev, ek, ei, es⟩, ee, rfl, hE⟩, hb5⟩
          have HE5 : Hid (NxE E ⟨ep, enn, ev, ek, ei, es⟩ ee) := hE
          unfold tsV
          simp only
          have HT5 : Hid (PpW w w5 K A I Y (some ⟨b, o, none⟩) M cap TT TB tn to N tc (.slice po k pc) acc) := (HT.out.next (alloc_below _ _)).next hb5
          have HB5 : Hid (Below w1.heap.size w1 w5) := next_trans (next_trans HB4.out (alloc_below _ _)) hb5
          have HK5 : Hid (Bx w5 BK #[.int .i64 K2, .int .i64 A2, .int .i64 I2, .string Y2, .slice ya M2 yc]) := by rw [← HBK.out]; exact (Bx.made _ _ _).next hb5
          rw [HBK.out]
          have hlt5 : TB < w5.heap.size := HT5.out.p.lt
          clear hb5 hE c0 c1 c2 c3 c4 t0 t1 p0 p1 HPn HT HBK htb htt HB4 HIs
          cases E with
          | ok t' =>
            have hE5 : (⟨ep, enn, ev, ek, ei, es⟩ : Ts) = t' ∧ ee = 0 := HE5.out
            obtain ⟨rfl, rfl⟩ := hE5
            have HRun2 : Hid (runP tl (acc ++ [⟨ep, enn, ev, ek, ei, es⟩]) (Lr.drop (k + 1)) = runP tl [] Lr) := by
              have := HRun.out
              rw [runp_step HYk.out, HE.out] at this
              exact this
            have p1 : (w5.alloc (.cells #[.int .i64 (ep : Int), .bool enn, .string ev, .int .i64 ek, .int .i64 ei, .string es] 88)).cell? ⟨TB, 1, none⟩ = some (.slice po k pc) := by have := (HT5.out.p.alloc (.cells #[.int .i64 (ep : Int), .bool enn, .string ev, .int .i64 ek, .int .i64 ei, .string es] 88)).cell 1; exact this
            obtain ⟨i0, hi, hz0, hz1, hz2⟩ := infoTs'
            have HO5 : Hid (w5.ownsRow (TB + 1) 88 6 (.slice po k pc) k (tsC acc)) := by have := HT5.out.own; rw [Hak.out] at this; exact this
            have HOb : Hid (∀ j, (Value.slice po k pc).ownBlock = some j → TB + 1 ≤ j ∧ j < w5.heap.size) := fun j hj => HO5.out.lt j hj
            go_wp2_with (at_builtin; refine wpList_append_own _ rfl _ _ 34 rfl (TB + 1) 88 i0 zeroTs 6 64 Tryz.underlying34 hi hz0 hz1 hz2 rfl (by decide) _ _ _ rfl ((HO5.out.alloc _).alloc _) ⟨w5.heap.size + 1, 0, none⟩ 1 1 [.int .i64 (ep : Int), .bool enn, .string ev, .int .i64 ek, .int .i64 ei, .string es] rfl rfl ?c1 ?c2 ?c3 ?c4 ?c5 ?_)
            case c1 =>
              intro j u hj
              match j, hj with
              | 0, hj => simp at hj; subst hj; simp [Addr.add]
              | 1, hj => simp at hj; subst hj; simp [Addr.add]
              | 2, hj => simp at hj; subst hj; simp [Addr.add]
              | 3, hj => simp at hj; subst hj; simp [Addr.add]
              | 4, hj => simp at hj; subst hj; simp [Addr.add]
              | 5, hj => simp at hj; subst hj; simp [Addr.add]
            case c2 => intro u hu; simp at hu; rcases hu with rfl | rfl | rfl | rfl | rfl | rfl <;> rfl
            case c3 => unfold maxLen; omega
            case c4 => omega
            case c5 => simp; omega
            intro s2 w7 ho hg _
            have HO7 : Hid (w7.ownsRow (TB + 1) 88 6 s2 (acc ++ [(⟨ep, enn, ev, ek, ei, es⟩ : Ts)]).length (tsC (acc ++ [(⟨ep, enn, ev, ek, ei, es⟩ : Ts)]))) := by
              rw [← tsC_snoc, Hid, List.length_append, Hak.out]; exact ho
            have hlC : (acc ++ [(⟨ep, enn, ev, ek, ei, es⟩ : Ts)]).length = k + 1 := by rw [List.length_append, Hak.out]; rfl
            replace ho : w7.ownsRow (TB + 1) 88 6 s2 (k + 1) (tsC (acc ++ [(⟨ep, enn, ev, ek, ei, es⟩ : Ts)])) := by rw [← tsC_snoc]; exact ho
            obtain ⟨so, sc, hs2, _, _⟩ := own_tss hlC ho
            subst hs2
            have hgb : ∀ j, j < TB + 1 → w7.heap[j]? = w5.heap[j]? := fun j hj => by
              rw [hg.block j (by simp; omega) (fun e => by have := (HOb.out j e.symm).1; omega), Below.heap_alloc _ _ _ (by simp; omega), Below.heap_alloc _ _ _ (by omega)]
            have HB7 : Hid (Below w.heap.size w w7) := by
              have hs := HT5.out.q.bel.size
              refine HT5.out.q.bel.trans ((((Below.refl _ w5).alloc hs _).alloc (by simp; omega) _).grown hg (by simp; omega) (fun k hk => ?_))
              have := (HOb.out k hk).1
              omega
            have hW4 : w1.heap.size ≤ w5.heap.size := HB5.out.size
            have HX7 : Hid (Bx w7 TB #[.string tn, .slice po k pc]) := by exact HT5.out.p.keep (hgb TB (by omega))
            have t7 : w7.cell? ⟨TB, 1, none⟩ = some (.slice po k pc) := HX7.out.cell 1
            have tf := HX7.out.froz
            have HN7 : Hid (PpW w (w7.setCell ⟨TB, 1, none⟩ (.slice so (k + 1) sc)) K A I Y (some ⟨b, o, none⟩) M cap TT TB tn to N tc (.slice so (k + 1) sc) (acc ++ [(⟨ep, enn, ev, ek, ei, es⟩ : Ts)])) :=
              ⟨⟨set_bel HB7.out (by omega), (HT5.out.q.n.keep (hgb _ (by omega))).off (by omega) _ _, (HT5.out.q.r.keep (hgb _ (by omega))).off (by omega) _ _⟩, (HT5.out.t.keep (hgb _ (by omega))).off (by omega) _ _, HX7.out.set 1 _, ownsRow_setCell_below HO7.out (by show TB < TB + 1; omega) _, HT5.out.lt, HT5.out.lt2⟩
            have HB6 : Hid (Below w1.heap.size w1 (w7.setCell ⟨TB, 1, none⟩ (.slice so (k + 1) sc))) := by
              refine set_bel ?_ (by omega)
              refine HB5.out.trans ((((Below.refl _ w5).alloc hW4 _).alloc (by simp; omega) _).grown hg (by simp; omega) (fun k hk => ?_))
              have := (HOb.out k hk).1
              omega
            clear ho hg hgb p1 HT5 HK5 HO5 HOb HX7 HB7 HO7 HE5 HE HYk HRun HB5
            go_wp2
            go_roundw
            case rel => exact ⟨k + 1, acc ++ [(⟨ep, enn, ev, ek, ei, es⟩ : Ts)], _, by omega, by go_num, by rw [hlC]; omega, HN7, HB6, hlC, HRun2⟩
            case measure => simp [intOf]; omega
          | error g =>
            have hE5 : ee = g := HE5.out
            subst hE5
            have hee := nextR_err HE.out
            have hd : (ee != 0) = true := by simp; omega
            have HEr : Hid (parP L x = .error (y.a, ee)) := by
              have := HRun.out
              rw [runp_step HYk.out, HE.out] at this
              rw [Hid, HP.out, ← this]
            have p1 : (w5.alloc (.cells #[.int .i64 (ep : Int), .bool enn, .string ev, .int .i64 ek, .int .i64 ei, .string es] 88)).cell? ⟨BK, 1, none⟩ = some (.int .i64 A2) := (HK5.out.alloc _).cell 1
            obtain ⟨W6, HW6⟩ : ∃ W6, Hid (w5.alloc (.cells #[.int .i64 (ep : Int), .bool enn, .string ev, .int .i64 ek, .int .i64 ei, .string es] 88) = W6) := ⟨_, rfl⟩
            have HT6 : Hid (PqW w W6 K A I Y (some ⟨b, o, none⟩) M cap) := by rw [← HW6.out]; exact HT5.out.q.next (alloc_below _ _)
            clear HE5 HRun HYk hee HE HP HB5
            go_wp2_with fail
            rw [HW6.out]
            refine (pfault_any A2 ee W6).mono ?_
            rintro e w7 ⟨rfl, hf7, hb7⟩
            have HT7 := HT6.out.next hb7
            have r0 : w7.cell? ⟨w.heap.size + 1, 0, none⟩ = some (.string ⟨#[]⟩) := HT7.r.cell 0
            have r1 : w7.cell? ⟨w.heap.size + 1, 1, none⟩ = some (.slice none 0 0) := HT7.r.cell 1
            have rf := HT7.r.froz
            have HB7 : Hid (Below w.heap.size w w7) := HT7.bel
            have HF7 : Hid (FaultAt w7 W6.heap.size (y.a : Int) ee) := by rw [HA2.out]; exact hf7
            have hl6 : w.heap.size + 1 < W6.heap.size := HT6.out.r.lt
            clear hb7 HT7 HT6 HT5 HK5 p1 hf7 HW6
            go_wp2
            exact bodyPost_ret (v := .tuple #[.agg #[.string ⟨#[]⟩, .slice none 0 0], .iface 133 (.pointer (some ⟨W6.heap.size, 0, none⟩))]) (by simp [results, Tryz.results11, go_sem, r0, r1]) rfl (pp_fault HEr.out HB7.out (by omega) (by omega) HF7.out)
        · have hki : ¬ (k : Int) < (NN : Int) := by omega
          have HEr : Hid (parP L x = .ok ⟨tn, acc⟩) := by
            have := HRun.out
            rw [List.drop_of_length_le (by rw [HLn.out]; omega)] at this
            rw [Hid, HP.out, ← this]; rfl
          have r0 : wr.cell? ⟨w.heap.size + 1, 0, none⟩ = some (.string ⟨#[]⟩) := HT.out.q.r.cell 0
          have r1 : wr.cell? ⟨w.heap.size + 1, 1, none⟩ = some (.slice none 0 0) := HT.out.q.r.cell 1
          have rf := HT.out.q.r.froz
          have p0 : wr.cell? ⟨TB, 0, none⟩ = some (.string tn) := HT.out.p.cell 0
          have p1 : wr.cell? ⟨TB, 1, none⟩ = some (.slice po k pc) := HT.out.p.cell 1
          have HSe : Hid (IsTss ((wr.setCell ⟨w.heap.size + 1, 0, none⟩ (.string tn)).setCell ⟨w.heap.size + 1, 1, none⟩ (.slice po k pc)) po acc) := by
            have hne : ∀ b o, po = some ⟨b, o, none⟩ → b ≠ w.heap.size + 1 := fun b o e h => by
              subst e
              have := (HT.out.own.lt b rfl).1
              omega
            exact (HIs.out.set hne).set hne
          have HBe : Hid (Below w.heap.size w ((wr.setCell ⟨w.heap.size + 1, 0, none⟩ (.string tn)).setCell ⟨w.heap.size + 1, 1, none⟩ (.slice po k pc))) := set_bel (set_bel HT.out.q.bel (by omega)) (by omega)
          clear hsl2 hcap2 HT HRun HP HB4 HIs
          go_wp2
          exact bodyPost_ret (v := .tuple #[.agg #[.string tn, .slice po k pc], .nilIface]) (by simp [results, Tryz.results11, go_sem, r0, r1]) rfl ⟨HBe.out, .inl ⟨⟨tn, acc⟩, po, pc, HEr.out, by unfold ptV; simp only; rw [Hak.out], HSe.out⟩⟩
end Go.Proofs.YtnhbjhdkpbhioaaGreatDoor
