import Derived.Test.YtnhbjhdkpbhioaaGreatDoorG11
namespace Go.Proofs.YtnhbjhdkpbhioaaGreatDoor
open Go.RowKit
theorem not_end {R n ta ua : Nat} {L : List Tk} {w W w5 W6 : World} {k' a' i' wf uk ui ti : Int} {us ts : List UInt8} {s' Y : ByteArray} {ao' wao : Option Addr} {n' cap' wn wcap p2 : Nat}
    (hK : kidW w5 (w.heap.size + 3) k' a' i' s' (.slice ao' n' cap') (.slice wao wn wcap) (.int .i64 wf) = W6)
    (hrs : RfRes R L W w5 (.returned (.tuple #[.agg #[.int .i64 (k'), .int .i64 (a'), .int .i64 (i'), .string (s'), .slice ao' n' cap'], .agg #[.slice wao wn wcap, .int .i64 wf]])) (if n + 1 = 4096 then .error (ua, 4) else .ok (leafN ⟨uk, ua, ui, us⟩, n + 1 + 1, L.drop p2)))
    (hR : R < w.heap.size) (hs3 : w.heap.size + 3 < W.heap.size) (hs5 : w.heap.size + 3 < w5.heap.size) (hW : WfT 8 ti ts) (hY : baL ts = Y) :
    RfRes R L w (set7 W6 w.heap.size (.int .i64 8) (.int .i64 (ta : Int)) (.int .i64 ti) (.string Y) (.slice (some ⟨w5.heap.size + 1 + 1, 0, none⟩) 1 1) (.slice wao wn wcap) (.int .i64 wf)) (.returned (.tuple #[.agg #[.int .i64 (8), .int .i64 ((ta : Int)), .int .i64 (ti), .string (Y), .slice (some ⟨w5.heap.size + 1 + 1, 0, none⟩) 1 1], .agg #[.slice wao wn wcap, .int .i64 wf]])) (if n + 1 = 4096 then .error (ua, 4) else .ok (.mk 8 ta 0 [] [leafN ⟨uk, ua, ui, us⟩], n + 1 + 1, L.drop p2)) := by
  have hb7 : ∀ j, j ≠ w.heap.size → j ≠ w.heap.size + 1 → (set7 W6 w.heap.size (.int .i64 8) (.int .i64 (ta : Int)) (.int .i64 ti) (.string Y) (.slice (some ⟨w5.heap.size + 1 + 1, 0, none⟩) 1 1) (.slice wao wn wcap) (.int .i64 wf)).heap[j]? = W6.heap[j]? := fun j h1 h2 => set7_block _ _ _ _ _ _ _ h1 h2
  obtain ⟨WF, hWF⟩ : ∃ WF, set7 W6 w.heap.size (.int .i64 8) (.int .i64 (ta : Int)) (.int .i64 ti) (.string Y) (.slice (some ⟨w5.heap.size + 1 + 1, 0, none⟩) 1 1) (.slice wao wn wcap) (.int .i64 wf) = WF := ⟨_, rfl⟩
  rw [hWF] at hb7 ⊢
  clear hWF
  have hfin : ∀ j, j < w5.heap.size → (j ≤ R ∨ w.heap.size + 4 ≤ j) → WF.heap[j]? = w5.heap[j]? := fun j h1 h2 => by
    rw [hb7 j (by omega) (by omega), ← hK]
    exact kid_block j h1 (by omega)
  by_cases hn6 : n + 1 = 4096
  · rw [if_pos hn6] at hrs ⊢
    obtain ⟨_, _, _, _, _, _, _, v, he, b9, hb9, hv9, hc9, hd9⟩ := hrs
    rw [hv9] at he
    obtain ⟨_, _, _, _, _, e6, e7⟩ := ret_inj he
    have hl9 : b9 < w5.heap.size := World.block_lt_of_cell? w5 ⟨b9, 0, none⟩ hc9
    have hq := (show PtAt w5 b9 ua from ⟨hc9, hd9⟩).keep (hfin b9 hl9 (.inr (by omega)))
    exact ⟨8, (ta : Int), ti, Y, _, 1, 1, _, rfl, b9, by omega, by rw [e6, e7], hq.1, hq.2⟩
  · rw [if_neg hn6] at hrs ⊢
    obtain ⟨⟨c, he, hc⟩, q, hq1, hq2⟩ := hrs
    obtain ⟨ck, ca, ci, cs, cao, cn, ccap⟩ := c
    obtain ⟨i1, i2, i3, i4, i5, i6, i7⟩ := ret_inj he
    have hz := mark_core (t := ⟨8, ta, ti, ts⟩) hW (.inr (.inr rfl))
    unfold core at hz
    simp only [Prod.mk.injEq, true_and] at hz
    obtain ⟨rfl, rfl⟩ := hz
    refine ⟨⟨⟨8, ta, 0, [], some ⟨w5.heap.size + 1 + 1, 0, none⟩, 1, 1⟩, ?_, rfl, rfl, rfl, rfl, rfl, Nat.le_refl _, ?_⟩, q, hq1, hq2.keep fun j hj => hfin j (by omega) (.inl hj)⟩
    · rw [i6, i7, ← hY]; rfl
    · refine ⟨w5.heap.size + 1 + 1, 0, fun _ => rfl, ncs_at (by unfold geB; omega) [⟨ck, ca, ci, cs, cao, cn, ccap⟩] [leafN ⟨uk, ua, ui, us⟩] 0 ⟨hc.keep fun j hj hl => ⟨hfin j hl (.inr ?_), ?_⟩, trivial⟩ fun j v hj => ?_⟩
      · unfold geB at hj; omega
      · unfold geB at hj ⊢; omega
      · rw [Nat.zero_add, World.cell?_of_block (w := W6) (a := ⟨w5.heap.size + 1 + 1, j, none⟩) (hb7 (w5.heap.size + 1 + 1) (by omega) (by omega)), ← hK]
        refine kid_row j v ?_
        rw [i1, i2, i3, i4, i5]
        exact hj
set_option linter.unusedVariables false in
set_option maxHeartbeats 8000000 in
set_option maxRecDepth 20000 in
theorem rn_not (f : Nat) (hN : ∀ g, g < f → RNodeC g) (R d n p : Nat) (L : List Tk) (w : World) (hW : ∀ t ∈ L, WfT t.k t.i t.s) (hL : L.length ≤ 100000) (hp : p < L.length) (hf : L.length - p ≤ f) (hn : n ≤ 4096) (hd : d ≤ 32) (hr : RfAt w R L p n) (t : Tk) (ht : L[p]? = some t) (k5 : t.k ≠ 5) (hn4 : n ≠ 4096) (k8 : t.k = 8) :
    Calls Tryz.prog 40 #[.pointer (some ⟨R, 0, none⟩), .int .i64 (d : Int)] w fun e w' => RfRes R L w w' e (rdN f d n (L.drop p)) ∧ Tch R w w' := by
  have HWf : Hid (∀ t ∈ L, WfT t.k t.i t.s) := hW
  have hdr : L.drop p = t :: L.drop (p + 1) := by
    obtain ⟨h1, h2⟩ := List.getElem?_eq_some_iff.1 ht
    rw [List.drop_eq_getElem_cons h1, h2]
  obtain ⟨E, HE⟩ : ∃ E, Hid (rdN f d n (L.drop p) = E) := ⟨_, rfl⟩
  rw [HE.out]
  have HX := HE.out
  rw [hdr, rdN_cons] at HX
  have HRw : R < w.heap.size := hr.lt
  have HR1 : Hid (RfAt w R L p n) := hr
  obtain ⟨b, o, cap, c0, c1, c2, cf, hbR, t0, t1, t2, t3⟩ := hr.get ht
  have hbw : b < w.heap.size := by omega
  have HNd : Hid (∀ g, g < f → RNodeC g) := hN
  have HWt : Hid (WfT t.k t.i t.s) := hW t (List.mem_of_getElem? ht)
  have HDr : Hid (L.drop p = t :: L.drop (p + 1)) := hdr
  obtain ⟨N, HNl⟩ : ∃ N, Hid (L.length = N) := ⟨_, rfl⟩
  rw [HNl.out] at hL hp hf c0
  obtain ⟨tk, ta, ti, ts⟩ := t
  simp only at HX t0 t1 t2 t3 HWt k5 k8
  have Hk8 : Hid (tk = 8) := k8
  clear k8
  obtain ⟨Y, HY⟩ : ∃ Y, Hid (baL ts = Y) := ⟨_, rfl⟩
  rw [HY.out] at t3
  have hpi : (p : Int) < (N : Int) := by omega
  have hp0 : (0 : Int) ≤ (p : Int) := by omega
  clear HE hr hN ht hdr hW
  go_enter Tryz.func40, Tryz.ntmps40
  go_wp2_with fail
  obtain ⟨W1, hW1⟩ : ∃ W1, (w.alloc (.cells #[.int .i64 0, .int .i64 0, .int .i64 0, .string ⟨#[]⟩, .slice none 0 0] 46)).alloc (.cells #[.slice none 0 0, .int .i64 0] 27) = W1 := ⟨_, rfl⟩
  have HBw : Hid (Below w.heap.size w W1) := by rw [Hid, ← hW1]; exact next_trans (alloc_below _ _) (alloc_below _ _)
  have hs1 : W1.heap.size = w.heap.size + 2 := by rw [← hW1]; simp
  have HB5 : Hid (Box5 W1 w.heap.size (.int .i64 0) (.int .i64 0) (.int .i64 0) (.string ⟨#[]⟩) (.slice none 0 0)) := by rw [Hid, ← hW1]; exact (Box5.made w _ _ _ _ _ _).next (alloc_below _ _)
  have HB2 : Hid (Two W1 (w.heap.size + 1) 27 (.slice none 0 0) (.int .i64 0)) := by
    rw [Hid, ← hW1]
    show (Array.push _ _)[w.heap.size + 1]? = _
    rw [Array.getElem?_push, if_pos (by simp)]
  rw [hW1]
  have q0 := keep_cell HBw.out c0
  have q1 := keep_cell HBw.out c1
  have q2 := keep_cell HBw.out t0
  have q3 := keep_cell HBw.out t1
  have q4 := keep_cell HBw.out t2
  have q5 := keep_cell HBw.out t3
  have r0 : (W1.alloc (.cells #[.int .i64 0, .int .i64 0, .int .i64 0, .string ⟨#[]⟩] 175)).cell? ⟨R, 0, none⟩ = _ := alloc_cell q0
  have r1 : (W1.alloc (.cells #[.int .i64 0, .int .i64 0, .int .i64 0, .string ⟨#[]⟩] 175)).cell? ⟨R, 1, none⟩ = _ := alloc_cell q1
  have r2 : (W1.alloc (.cells #[.int .i64 0, .int .i64 0, .int .i64 0, .string ⟨#[]⟩] 175)).cell? ⟨b, o + p * 4, none⟩ = _ := alloc_cell q2
  have r3 : (W1.alloc (.cells #[.int .i64 0, .int .i64 0, .int .i64 0, .string ⟨#[]⟩] 175)).cell? ⟨b, o + p * 4 + 1, none⟩ = _ := alloc_cell q3
  have r4 : (W1.alloc (.cells #[.int .i64 0, .int .i64 0, .int .i64 0, .string ⟨#[]⟩] 175)).cell? ⟨b, o + p * 4 + 2, none⟩ = _ := alloc_cell q4
  have r5 : (W1.alloc (.cells #[.int .i64 0, .int .i64 0, .int .i64 0, .string ⟨#[]⟩] 175)).cell? ⟨b, o + p * 4 + 3, none⟩ = _ := alloc_cell q5
  clear hW1 c0 c1 c2 t0 t1 t2 t3
  go_region
  obtain ⟨W2, hW2⟩ : ∃ W2, (W1.alloc (.cells #[.int .i64 tk, .int .i64 (ta : Int), .int .i64 ti, .string Y] 175)).drew = W2 := ⟨_, rfl⟩
  have HD : Hid (Below W1.heap.size W1 W2) := by rw [Hid, ← hW2]; exact (alloc_below _ _).drew
  have HBw2 : Hid (Below w.heap.size w W2) := next_trans HBw.out HD.out
  have hs2 : W2.heap.size = w.heap.size + 3 := by
    have : W2.heap.size = W1.heap.size + 1 := by rw [← hW2]; exact World.size_alloc _ _
    omega
  have x0 : W2.cell? ⟨w.heap.size + 2, 0, none⟩ = some (.int .i64 tk) := by rw [← hW2, ← hs1]; exact box_cell rfl rfl
  have x1 : W2.cell? ⟨w.heap.size + 2, 1, none⟩ = some (.int .i64 (ta : Int)) := by rw [← hW2, ← hs1]; exact box_cell rfl rfl
  have x2 : W2.cell? ⟨w.heap.size + 2, 2, none⟩ = some (.int .i64 ti) := by rw [← hW2, ← hs1]; exact box_cell rfl rfl
  have x3 : W2.cell? ⟨w.heap.size + 2, 3, none⟩ = some (.string Y) := by rw [← hW2, ← hs1]; exact box_cell rfl rfl
  have HB52 : Hid (Box5 W2 w.heap.size (.int .i64 0) (.int .i64 0) (.int .i64 0) (.string ⟨#[]⟩) (.slice none 0 0)) := HB5.out.next HD.out
  have HB22 : Hid (Two W2 (w.heap.size + 1) 27 (.slice none 0 0) (.int .i64 0)) := HB2.out.next HD.out
  have HR2 : Hid (RfAt W2 R L p n) := HR1.out.next HBw2.out
  rw [hW2]
  clear hW2 q0 q1 q2 q3 q4 q5 r0 r1 r2 r3 r4 r5 hs1 HD HBw HB5 HB2 HR1
  obtain ⟨y1, y2, yf⟩ := HR2.out.c12
  have k8 := Hk8.out
  have hR2 : R < W2.heap.size := by omega
  have d5 : (tk == 5) = false := by simpa using k5
  rw [if_neg k5] at HX
  have hn5 : ¬ (4096 : Int) < (n : Int) + 1 := by omega
  rw [if_neg hn4] at HX
  have HTok : Hid (∀ xk v, RnSt R L w (((W2.setCell ⟨R, 1, none⟩ (.int .i64 ((p : Int) + 1))).setCell ⟨R, 2, none⟩ (.int .i64 ((n : Int) + 1))).alloc (.cells #[.int .i64 xk, .int .i64 (ta : Int), .int .i64 ti, .string Y, v] 46)) (p + 1) (n + 1) tk xk ta ti Y v) := by
    intro xk v
    have hA : RfAt ((W2.setCell ⟨R, 1, none⟩ (.int .i64 ((p : Int) + 1))).setCell ⟨R, 2, none⟩ (.int .i64 ((n : Int) + 1))) R L (p + 1) (n + 1) :=
      (HR2.out.setp (p + 1) (by rw [HNl.out]; omega) _ (by omega)).setc (n + 1) _ (by omega)
    obtain ⟨W3, hW3⟩ : ∃ W3, (W2.setCell ⟨R, 1, none⟩ (.int .i64 ((p : Int) + 1))).setCell ⟨R, 2, none⟩ (.int .i64 ((n : Int) + 1)) = W3 := ⟨_, rfl⟩
    have hb : ∀ k, k ≠ R → W3.heap[k]? = W2.heap[k]? := fun k hk => by
      rw [← hW3, Below.heap_setCell _ _ _ _ (by exact hk), Below.heap_setCell _ _ _ _ (by exact hk)]
    have hs : W3.heap.size = w.heap.size + 3 := by rw [← hW3, ← hs2]; simp [World.setCell]
    have hT : Tch R w W3 := by rw [← hW3]; exact ((Tch.of_below HBw2.out).trans (Tch.set R _ 1 _)).trans (Tch.set R _ 2 _)
    rw [hW3] at hA ⊢
    have c0' : W3.cell? ⟨w.heap.size + 2, 0, none⟩ = some (.int .i64 tk) := by rw [World.cell?_of_block (a := ⟨w.heap.size + 2, 0, none⟩) (hb (w.heap.size + 2) (by omega))]; exact x0
    have c1' : W3.cell? ⟨w.heap.size + 2, 1, none⟩ = some (.int .i64 (ta : Int)) := by rw [World.cell?_of_block (a := ⟨w.heap.size + 2, 1, none⟩) (hb (w.heap.size + 2) (by omega))]; exact x1
    have h1 : Two W3 (w.heap.size + 1) 27 (.slice none 0 0) (.int .i64 0) := by unfold Two; rw [hb _ (by omega)]; exact HB22.out
    refine ⟨hA.next (alloc_below _ _), hT.below_of (alloc_below _ _), (HB52.out.keep (hb _ (by omega))).next (alloc_below _ _), h1.alloc _, alloc_cell c0', alloc_cell c1', ?_⟩
    have := Box5.made W3 46 (.int .i64 xk) (.int .i64 (ta : Int)) (.int .i64 ti) (.string Y) v
    rw [hs] at this
    exact this
  rw [if_neg (by omega), if_pos k8] at HX
  subst k8
  clear k5 d5
  go_wp2_with fail
  obtain ⟨W3, hW3⟩ : ∃ W3, ((W2.setCell ⟨R, 1, none⟩ (.int .i64 ((p : Int) + 1))).setCell ⟨R, 2, none⟩ (.int .i64 ((n : Int) + 1))).alloc (.cells #[.int .i64 8, .int .i64 (ta : Int), .int .i64 ti, .string Y, .slice none 0 0] 46) = W3 := ⟨_, rfl⟩
  have HS := HTok.out 8 (.slice none 0 0)
  rw [hW3] at HS
  rw [hW3]
  have HS3 : Hid (RnSt R L w W3 (p + 1) (n + 1) 8 8 ta ti Y (.slice none 0 0)) := HS
  clear hW3 HTok HS x0 x1 x2 x3 y1 y2 yf HB52 HB22 HBw2 HR2 hs2 hR2
  have hs3 : w.heap.size + 3 < W3.heap.size := HS3.out.lt
  have hR3 : R < W3.heap.size := by omega
  obtain ⟨y1, y2, yf⟩ := HS3.out.at_.c12
  obtain ⟨ao3, cap3, y0⟩ := HS3.out.at_.c0
  rw [HNl.out] at y0
  rw [Int.natCast_add] at y1 y2
  have x0 := HS3.out.t0
  have x1 := HS3.out.t1
  by_cases hpe : p + 1 = N
  · have hpd : ((p : Int) + 1 == (N : Int)) = true := by simp; omega
    have hnil : L.drop (p + 1) = [] := List.drop_eq_nil_of_le (by rw [HNl.out]; omega)
    rw [hnil] at HX
    have HX2 : Hid (E = .error (ta, 3)) := HX.symm
    clear HX hnil hpe
    go_quiet (fail)
    go_wp2_with fail
    refine (wat_ex _ _ _).mono ?_
    rintro e w3 ⟨⟨b3, rfl, hB3, hp3⟩, hb3⟩
    have HQ3 := (HS3.out.drewN _).below hb3 HRw
    obtain ⟨e0, e1, e2, e3, e4, ef⟩ := HQ3.b0.cells
    have z0 := HQ3.b1.c0
    have z1 := HQ3.b1.c1
    have zf0 := HQ3.b1.f 0
    have zf1 := HQ3.b1.f 1
    have HT3 : Hid (Tch R w w3) := HQ3.tch
    have hB3' : W3.heap.size ≤ b3 := hB3
    have hB : w.heap.size + 2 ≤ b3 := by omega
    have HP3 : Hid (PtAt w3 b3 ta) := hp3
    clear hp3 hb3 hB3 HQ3
    go_wp2
    exact bodyPost_ret (v := .tuple #[zeroNd, .agg #[.slice (some ⟨b3, 0, none⟩) 1 1, .int .i64 3]]) (by simp [results, Tryz.results40, go_sem, zeroNd, e0, e1, e2, e3, e4, z0, z1]) rfl (err_res HX2.out HP3.out (by omega) HT3.out)
  · have hpd : ((p : Int) + 1 == (N : Int)) = false := by simp; omega
    have hp1 : p + 1 < L.length := by rw [HNl.out]; omega
    obtain ⟨u, hu⟩ : ∃ u, L[p + 1]? = some u := ⟨_, List.getElem?_eq_getElem hp1⟩
    have hdr2 : L.drop (p + 1) = u :: L.drop (p + 2) := by
      obtain ⟨h1, h2⟩ := List.getElem?_eq_some_iff.1 hu
      rw [List.drop_eq_getElem_cons h1, h2]
    rw [hdr2] at HX
    have HX' : (if markT u.k = true then (.error (ta, 2) : NR) else if n + 1 = 4096 then .error (u.a, 4) else .ok (.mk 8 ta 0 [] [leafN u], n + 1 + 1, L.drop (p + 2))) = E := HX
    obtain ⟨b4, o4, cap4, u0, u1, u2, uf, hbR4, v0, v1, v2, v3⟩ := HS3.out.at_.get hu
    rw [HNl.out] at u0
    rw [Int.natCast_add] at u1 u2
    have hpi1 : (p : Int) + 1 < (N : Int) := by rw [HNl.out] at hp1; omega
    have hpi0 : (0 : Int) ≤ (p : Int) + 1 := by omega
    clear HX hu y0 y1 y2 v1 v2 v3 hpe
    obtain ⟨uk, ua, ui, us⟩ := u
    simp only at HX' v0
    by_cases hm : markT uk = true
    · rw [if_pos hm] at HX'
      have HX2 : Hid (E = .error (ta, 2)) := HX'.symm
      have hk : uk = 4 ∨ uk = 5 ∨ uk = 8 := by unfold markT at hm; simpa using hm
      clear HX' hm hdr2 hp1
      rcases hk with rfl | rfl | rfl
      all_goals
        go_quiet (fail)
        go_wp2_with fail
        go_quiet (fail)
        go_wp2_with fail
        refine (wat_ex _ _ _).mono ?_
        rintro e w3 ⟨⟨b3, rfl, hB3, hp3⟩, hb3⟩
        have HQ3 := (HS3.out.drewN _).below hb3 HRw
        obtain ⟨e0, e1, e2, e3, e4, ef⟩ := HQ3.b0.cells
        have z0 := HQ3.b1.c0
        have z1 := HQ3.b1.c1
        have zf0 := HQ3.b1.f 0
        have zf1 := HQ3.b1.f 1
        have HT3 : Hid (Tch R w w3) := HQ3.tch
        have hB3' : W3.heap.size ≤ b3 := hB3
        have hB : w.heap.size + 2 ≤ b3 := by omega
        have HP3 : Hid (PtAt w3 b3 ta) := hp3
        clear hp3 hb3 hB3 HQ3
        go_wp2
        exact bodyPost_ret (v := .tuple #[zeroNd, .agg #[.slice (some ⟨b3, 0, none⟩) 1 1, .int .i64 2]]) (by simp [results, Tryz.results40, go_sem, zeroNd, e0, e1, e2, e3, e4, z0, z1]) rfl (err_res HX2.out HP3.out (by omega) HT3.out)
    · rw [if_neg hm] at HX'
      have hk : ¬ (uk = 4 ∨ uk = 5 ∨ uk = 8) := by intro e; exact hm (by unfold markT; simpa using e)
      have d4 : (uk == 4) = false := by simp; omega
      have d5 : (uk == 5) = false := by simp; omega
      have d8 : (uk == 8) = false := by simp; omega
      have HX2 : Hid ((if n + 1 = 4096 then (.error (ua, 4) : NR) else .ok (.mk 8 ta 0 [] [leafN ⟨uk, ua, ui, us⟩], n + 1 + 1, L.drop (p + 2))) = E) := HX'
      have HCl : Hid (∀ w', RfAt w' R L (p + 1) (n + 1) → Calls Tryz.prog 40 #[.pointer (some ⟨R, 0, none⟩), .int .i64 (d : Int)] w' fun e w2 => RfRes R L w' w2 e (if n + 1 = 4096 then .error (ua, 4) else .ok (leafN ⟨uk, ua, ui, us⟩, n + 1 + 1, L.drop (p + 2))) ∧ Tch R w' w2) := fun w' h => by
        have := HNd.out (f - 1) (by omega) R d (n + 1) (p + 1) L w' HWf.out (by rw [HNl.out]; exact hL) hp1 (by rw [HNl.out]; omega) (by omega) hd h
        rw [hdr2, rdN_cons] at this
        rw [if_neg (show ¬ (⟨uk, ua, ui, us⟩ : Tk).k = 5 by show ¬ uk = 5; omega), if_neg (show ¬ (⟨uk, ua, ui, us⟩ : Tk).k = 4 by show ¬ uk = 4; omega), if_neg (show ¬ (⟨uk, ua, ui, us⟩ : Tk).k = 8 by show ¬ uk = 8; omega)] at this
        exact this
      clear HX' hm hdr2 hp1 hk
      go_quiet (fail)
      go_wp2_with fail
      go_quiet (fail)
      go_wp2_with fail
      refine (HCl.out _ (HS3.out.drewN _).at_).mono ?_
      rintro e w5 ⟨hres, ht5⟩
      obtain ⟨k', a', i', s', ao', n', cap', wao, wn, wcap, wf, rfl⟩ := hres.form
      have ht5' : Tch R W3 w5 := ⟨ht5.os, ht5.tape, ht5.output, ht5.size, ht5.block⟩
      have hk5 : ∀ k, k < w.heap.size + 4 → k ≠ R → w5.heap[k]? = W3.heap[k]? := fun k hk hn => ht5'.block k (by omega) hn
      have hs5 : w.heap.size + 3 < w5.heap.size := by have := ht5'.size; omega
      have HB05' := HS3.out.b0.keep (hk5 _ (by omega) (by omega))
      have HB35' := HS3.out.b3.keep (hk5 _ (by omega) (by omega))
      obtain ⟨e0, e1, e2, e3, e4, ef⟩ := HB05'.cells
      obtain ⟨g0, g1, g2, g3, g4, gf⟩ := HB35'.cells
      have z5 : Two w5 (w.heap.size + 1) 27 (.slice none 0 0) (.int .i64 0) := by unfold Two; rw [hk5 _ (by omega) (by omega)]; exact HS3.out.b1
      have z0 := z5.c0
      have z1 := z5.c1
      have zf0 := z5.f 0
      have zf1 := z5.f 1
      have HT5 : Hid (Tch R w w5) := HS3.out.tch.trans ht5'
      have HRs : Hid _ := hres
      have hs6 : w.heap.size + 3 < w5.heap.size + 1 := by omega
      have hs7 : w.heap.size + 3 < w5.heap.size + 1 + 1 := by omega
      have hs8 : w.heap.size + 3 ≠ w5.heap.size := by omega
      have hs9 : w.heap.size + 3 ≠ w5.heap.size + 1 := by omega
      have hs10 : w.heap.size + 3 ≠ w5.heap.size + 1 + 1 := by omega
      clear hres ht5 ht5' hk5 u0 u1 u2 v0 x0 x1
      have HB05 : Hid (Box5 w5 w.heap.size (.int .i64 0) (.int .i64 0) (.int .i64 0) (.string ⟨#[]⟩) (.slice none 0 0)) := HB05'
      have HB35 : Hid (Box5 w5 (w.heap.size + 3) (.int .i64 8) (.int .i64 (ta : Int)) (.int .i64 ti) (.string Y) (.slice none 0 0)) := HB35'
      have HB15 : Hid (Two w5 (w.heap.size + 1) 27 (.slice none 0 0) (.int .i64 0)) := z5
      clear HB05' HB35' z5
      go_wp2_with fail
      obtain ⟨W6, hW6⟩ : ∃ W6, kidW w5 (w.heap.size + 3) k' a' i' s' (.slice ao' n' cap') (.slice wao wn wcap) (.int .i64 wf) = W6 := ⟨_, rfl⟩
      have HK6 : Hid (kidW w5 (w.heap.size + 3) k' a' i' s' (.slice ao' n' cap') (.slice wao wn wcap) (.int .i64 wf) = W6) := hW6
      unfold kidW at hW6
      rw [hW6]
      clear hW6 e0 e1 e2 e3 e4 ef g0 g1 g2 g3 g4 gf hs6 hs7 hs8 hs9 hs10
      have hbl : ∀ j, j < w5.heap.size → j ≠ w.heap.size + 3 → W6.heap[j]? = w5.heap[j]? := fun j h1 h2 => by rw [← HK6.out]; exact kid_block j h1 h2
      obtain ⟨e0, e1, e2, e3, e4, ef⟩ := (HB05.out.keep (hbl _ (by omega) (by omega))).cells
      have hxx := kid_x (k := k') (a := a') (i := i') (s := s') (v := .slice ao' n' cap') (wv := .slice wao wn wcap) (we := .int .i64 wf) HB35.out
      rw [HK6.out] at hxx
      obtain ⟨g0, g1, g2, g3, g4, gf⟩ := hxx.cells
      have z5 : Two W6 (w.heap.size + 1) 27 (.slice none 0 0) (.int .i64 0) := by unfold Two; rw [hbl _ (by omega) (by omega)]; exact HB15.out
      have z0 := z5.c0
      have z1 := z5.c1
      have zf0 := z5.f 0
      have zf1 := z5.f 1
      obtain ⟨m0, m1⟩ := kid_w (w5 := w5) (x := w.heap.size + 3) (k := k') (a := a') (i := i') (s := s') (v := .slice ao' n' cap') (wv := .slice wao wn wcap) (we := .int .i64 wf)
      rw [HK6.out] at m0 m1
      have hs6 : w5.heap.size + 1 ≠ w.heap.size := by omega
      have hs7 : w5.heap.size + 1 ≠ w.heap.size + 1 := by omega
      have hs8 : w5.heap.size + 1 ≠ w.heap.size + 3 := by omega
      have HT6 : Hid (Tch R w W6) := by
        refine ⟨?_, ?_, ?_, ?_, fun j h1 h2 => ?_⟩
        · rw [← HK6.out]; exact HT5.out.os
        · rw [← HK6.out]; exact HT5.out.tape
        · rw [← HK6.out]; exact HT5.out.output
        · rw [← HK6.out, kid_size]; have := HT5.out.size; omega
        · rw [hbl j (by omega) (by omega)]; exact HT5.out.block j h1 h2
      have HBl : Hid (∀ j, j < w5.heap.size → j ≠ w.heap.size + 3 → W6.heap[j]? = w5.heap[j]?) := hbl
      clear hbl hxx z5
      go_region
      go_wp2
      refine bodyPost_ret (v := .tuple #[.agg #[.int .i64 (8), .int .i64 ((ta : Int)), .int .i64 (ti), .string (Y), .slice (some ⟨w5.heap.size + 1 + 1, 0, none⟩) 1 1], .agg #[.slice wao wn wcap, .int .i64 wf]]) (by simp [results, Tryz.results40, go_sem, e0, e1, e2, e3, e4, z0, z1]) rfl ⟨?_, (set7_tch _ _ _ _ _ _ _ HT6.out (Nat.le_refl _)).drew⟩
      rw [← HX2.out]
      exact (not_end HK6.out HRs.out HRw hs3 hs5 HWt.out HY.out).drew
end Go.Proofs.YtnhbjhdkpbhioaaGreatDoor
namespace Go.Proofs.YtnhbjhdkpbhioaaGreatDoor
open Go.RowKit
theorem inRN : (Tryz.prog.info? 46).map (fun i => (i.zero, i.size, i.bytes)) = some (some zeroNd, 5, 64) := by kernel_rfl
theorem inRN' : ∃ i, Tryz.prog.info? 46 = some i ∧ i.zero = some zeroNd ∧ i.size = 5 ∧ i.bytes = 64 := by
  obtain ⟨i, h, e⟩ := Option.map_eq_some_iff.1 inRN
  simp only [Prod.mk.injEq] at e
  exact ⟨i, h, e.1, e.2.1, e.2.2⟩
def atN (w : World) (R : Nat) : Nat := match w.cell? ⟨R, 1, none⟩ with
  | some (.int _ i) => i.toNat
  | _ => 0
theorem RfAt.atN {w : World} {R p c : Nat} {L : List Tk} (h : RfAt w R L p c) : atN w R = p := by
  unfold Go.Proofs.YtnhbjhdkpbhioaaGreatDoor.atN
  rw [h.c12.1]
  simp
structure RlAt (f R d : Nat) (E : NR) (L : List Tk) (w wr : World) (ta : Nat) (ti : Int) (Y : ByteArray) (f' n p : Nat) (acc : List Nd) (cs : List Nc) (v : Value) : Prop where
  rd : rdL f' d ta n (L.drop p) acc = E
  len : L.length - p + 1 ≤ f'
  le : f' ≤ f
  cnt : n ≤ 4096
  acl : acc.length ≤ n
  st : RnSt R L w wr p n 4 0 ta ti Y v
  own : wr.ownsRow (w.heap.size + 4) 46 5 v cs.length (ncsC cs)
  kids : NcsIs wr (offB (w.heap.size + 4) v) cs acc
def boxW (w5 : World) (k a i : Int) (s : ByteArray) (v : Value) (wv we : Value) : World :=
  (w5.alloc (.cells #[.int .i64 k, .int .i64 a, .int .i64 i, .string s, v] 46)).alloc (.cells #[wv, we] 27)
theorem box_w {w5 : World} {k a i : Int} {s : ByteArray} {v wv we : Value} : (boxW w5 k a i s v wv we).cell? ⟨w5.heap.size + 1, 0, none⟩ = some wv ∧ (boxW w5 k a i s v wv we).cell? ⟨w5.heap.size + 1, 1, none⟩ = some we := by
  unfold boxW
  exact ⟨box_cell (by simp) rfl, box_cell (by simp) rfl⟩
theorem box_below (w5 : World) (k a i : Int) (s : ByteArray) (v wv we : Value) : Below w5.heap.size w5 (boxW w5 k a i s v wv we) := by
  unfold boxW
  exact next_trans (alloc_below _ _) (alloc_below _ _)
set_option linter.unusedVariables false in
set_option maxHeartbeats 8000000 in
set_option maxRecDepth 20000 in
theorem rn_list (f : Nat) (hN : ∀ g, g < f → RNodeC g) (R d n p : Nat) (L : List Tk) (w : World) (hW : ∀ t ∈ L, WfT t.k t.i t.s) (hL : L.length ≤ 100000) (hp : p < L.length) (hf : L.length - p ≤ f) (hn : n ≤ 4096) (hd : d ≤ 32) (hr : RfAt w R L p n) (t : Tk) (ht : L[p]? = some t) (k5 : t.k ≠ 5) (hn4 : n ≠ 4096) (k4 : t.k = 4) :
    Calls Tryz.prog 40 #[.pointer (some ⟨R, 0, none⟩), .int .i64 (d : Int)] w fun e w' => RfRes R L w w' e (rdN f d n (L.drop p)) ∧ Tch R w w' := by
  have HWf : Hid (∀ t ∈ L, WfT t.k t.i t.s) := hW
  have hdr : L.drop p = t :: L.drop (p + 1) := by
    obtain ⟨h1, h2⟩ := List.getElem?_eq_some_iff.1 ht
    rw [List.drop_eq_getElem_cons h1, h2]
  obtain ⟨E, HE⟩ : ∃ E, Hid (rdN f d n (L.drop p) = E) := ⟨_, rfl⟩
  rw [HE.out]
  have HX := HE.out
  rw [hdr, rdN_cons] at HX
  have HRw : R < w.heap.size := hr.lt
  have HR1 : Hid (RfAt w R L p n) := hr
  obtain ⟨b, o, cap, c0, c1, c2, cf, hbR, t0, t1, t2, t3⟩ := hr.get ht
  have hbw : b < w.heap.size := by omega
  have HNd : Hid (∀ g, g < f → RNodeC g) := hN
  have HWt : Hid (WfT t.k t.i t.s) := hW t (List.mem_of_getElem? ht)
  have HDr : Hid (L.drop p = t :: L.drop (p + 1)) := hdr
  obtain ⟨N, HNl⟩ : ∃ N, Hid (L.length = N) := ⟨_, rfl⟩
  rw [HNl.out] at hL hp hf c0
  obtain ⟨tk, ta, ti, ts⟩ := t
  simp only at HX t0 t1 t2 t3 HWt k5 k4
  have Hk4 : Hid (tk = 4) := k4
  clear k4
  obtain ⟨Y, HY⟩ : ∃ Y, Hid (baL ts = Y) := ⟨_, rfl⟩
  rw [HY.out] at t3
  have hpi : (p : Int) < (N : Int) := by omega
  have hp0 : (0 : Int) ≤ (p : Int) := by omega
  clear HE hr hN ht hdr hW
  go_enter Tryz.func40, Tryz.ntmps40
  go_wp2_with fail
  obtain ⟨W1, hW1⟩ : ∃ W1, (w.alloc (.cells #[.int .i64 0, .int .i64 0, .int .i64 0, .string ⟨#[]⟩, .slice none 0 0] 46)).alloc (.cells #[.slice none 0 0, .int .i64 0] 27) = W1 := ⟨_, rfl⟩
  have HBw : Hid (Below w.heap.size w W1) := by rw [Hid, ← hW1]; exact next_trans (alloc_below _ _) (alloc_below _ _)
  have hs1 : W1.heap.size = w.heap.size + 2 := by rw [← hW1]; simp
  have HB5 : Hid (Box5 W1 w.heap.size (.int .i64 0) (.int .i64 0) (.int .i64 0) (.string ⟨#[]⟩) (.slice none 0 0)) := by rw [Hid, ← hW1]; exact (Box5.made w _ _ _ _ _ _).next (alloc_below _ _)
  have HB2 : Hid (Two W1 (w.heap.size + 1) 27 (.slice none 0 0) (.int .i64 0)) := by
    rw [Hid, ← hW1]
    show (Array.push _ _)[w.heap.size + 1]? = _
    rw [Array.getElem?_push, if_pos (by simp)]
  rw [hW1]
  have q0 := keep_cell HBw.out c0
  have q1 := keep_cell HBw.out c1
  have q2 := keep_cell HBw.out t0
  have q3 := keep_cell HBw.out t1
  have q4 := keep_cell HBw.out t2
  have q5 := keep_cell HBw.out t3
  have r0 : (W1.alloc (.cells #[.int .i64 0, .int .i64 0, .int .i64 0, .string ⟨#[]⟩] 175)).cell? ⟨R, 0, none⟩ = _ := alloc_cell q0
  have r1 : (W1.alloc (.cells #[.int .i64 0, .int .i64 0, .int .i64 0, .string ⟨#[]⟩] 175)).cell? ⟨R, 1, none⟩ = _ := alloc_cell q1
  have r2 : (W1.alloc (.cells #[.int .i64 0, .int .i64 0, .int .i64 0, .string ⟨#[]⟩] 175)).cell? ⟨b, o + p * 4, none⟩ = _ := alloc_cell q2
  have r3 : (W1.alloc (.cells #[.int .i64 0, .int .i64 0, .int .i64 0, .string ⟨#[]⟩] 175)).cell? ⟨b, o + p * 4 + 1, none⟩ = _ := alloc_cell q3
  have r4 : (W1.alloc (.cells #[.int .i64 0, .int .i64 0, .int .i64 0, .string ⟨#[]⟩] 175)).cell? ⟨b, o + p * 4 + 2, none⟩ = _ := alloc_cell q4
  have r5 : (W1.alloc (.cells #[.int .i64 0, .int .i64 0, .int .i64 0, .string ⟨#[]⟩] 175)).cell? ⟨b, o + p * 4 + 3, none⟩ = _ := alloc_cell q5
  clear hW1 c0 c1 c2 t0 t1 t2 t3
  go_region
  obtain ⟨W2, hW2⟩ : ∃ W2, (W1.alloc (.cells #[.int .i64 tk, .int .i64 (ta : Int), .int .i64 ti, .string Y] 175)).drew = W2 := ⟨_, rfl⟩
  have HD : Hid (Below W1.heap.size W1 W2) := by rw [Hid, ← hW2]; exact (alloc_below _ _).drew
  have HBw2 : Hid (Below w.heap.size w W2) := next_trans HBw.out HD.out
  have hs2 : W2.heap.size = w.heap.size + 3 := by
    have : W2.heap.size = W1.heap.size + 1 := by rw [← hW2]; exact World.size_alloc _ _
    omega
  have x0 : W2.cell? ⟨w.heap.size + 2, 0, none⟩ = some (.int .i64 tk) := by rw [← hW2, ← hs1]; exact box_cell rfl rfl
  have x1 : W2.cell? ⟨w.heap.size + 2, 1, none⟩ = some (.int .i64 (ta : Int)) := by rw [← hW2, ← hs1]; exact box_cell rfl rfl
  have x2 : W2.cell? ⟨w.heap.size + 2, 2, none⟩ = some (.int .i64 ti) := by rw [← hW2, ← hs1]; exact box_cell rfl rfl
  have x3 : W2.cell? ⟨w.heap.size + 2, 3, none⟩ = some (.string Y) := by rw [← hW2, ← hs1]; exact box_cell rfl rfl
  have HB52 : Hid (Box5 W2 w.heap.size (.int .i64 0) (.int .i64 0) (.int .i64 0) (.string ⟨#[]⟩) (.slice none 0 0)) := HB5.out.next HD.out
  have HB22 : Hid (Two W2 (w.heap.size + 1) 27 (.slice none 0 0) (.int .i64 0)) := HB2.out.next HD.out
  have HR2 : Hid (RfAt W2 R L p n) := HR1.out.next HBw2.out
  rw [hW2]
  clear hW2 q0 q1 q2 q3 q4 q5 r0 r1 r2 r3 r4 r5 hs1 HD HBw HB5 HB2 HR1
  obtain ⟨y1, y2, yf⟩ := HR2.out.c12
  have k4 := Hk4.out
  have hR2 : R < W2.heap.size := by omega
  have d5 : (tk == 5) = false := by simpa using k5
  rw [if_neg k5] at HX
  have hn5 : ¬ (4096 : Int) < (n : Int) + 1 := by omega
  rw [if_neg hn4] at HX
  have HTok : Hid (∀ xk v, RnSt R L w (((W2.setCell ⟨R, 1, none⟩ (.int .i64 ((p : Int) + 1))).setCell ⟨R, 2, none⟩ (.int .i64 ((n : Int) + 1))).alloc (.cells #[.int .i64 xk, .int .i64 (ta : Int), .int .i64 ti, .string Y, v] 46)) (p + 1) (n + 1) tk xk ta ti Y v) := by
    intro xk v
    have hA : RfAt ((W2.setCell ⟨R, 1, none⟩ (.int .i64 ((p : Int) + 1))).setCell ⟨R, 2, none⟩ (.int .i64 ((n : Int) + 1))) R L (p + 1) (n + 1) :=
      (HR2.out.setp (p + 1) (by rw [HNl.out]; omega) _ (by omega)).setc (n + 1) _ (by omega)
    obtain ⟨W3, hW3⟩ : ∃ W3, (W2.setCell ⟨R, 1, none⟩ (.int .i64 ((p : Int) + 1))).setCell ⟨R, 2, none⟩ (.int .i64 ((n : Int) + 1)) = W3 := ⟨_, rfl⟩
    have hb : ∀ k, k ≠ R → W3.heap[k]? = W2.heap[k]? := fun k hk => by
      rw [← hW3, Below.heap_setCell _ _ _ _ (by exact hk), Below.heap_setCell _ _ _ _ (by exact hk)]
    have hs : W3.heap.size = w.heap.size + 3 := by rw [← hW3, ← hs2]; simp [World.setCell]
    have hT : Tch R w W3 := by rw [← hW3]; exact ((Tch.of_below HBw2.out).trans (Tch.set R _ 1 _)).trans (Tch.set R _ 2 _)
    rw [hW3] at hA ⊢
    have c0' : W3.cell? ⟨w.heap.size + 2, 0, none⟩ = some (.int .i64 tk) := by rw [World.cell?_of_block (a := ⟨w.heap.size + 2, 0, none⟩) (hb (w.heap.size + 2) (by omega))]; exact x0
    have c1' : W3.cell? ⟨w.heap.size + 2, 1, none⟩ = some (.int .i64 (ta : Int)) := by rw [World.cell?_of_block (a := ⟨w.heap.size + 2, 1, none⟩) (hb (w.heap.size + 2) (by omega))]; exact x1
    have h1 : Two W3 (w.heap.size + 1) 27 (.slice none 0 0) (.int .i64 0) := by unfold Two; rw [hb _ (by omega)]; exact HB22.out
    refine ⟨hA.next (alloc_below _ _), hT.below_of (alloc_below _ _), (HB52.out.keep (hb _ (by omega))).next (alloc_below _ _), h1.alloc _, alloc_cell c0', alloc_cell c1', ?_⟩
    have := Box5.made W3 46 (.int .i64 xk) (.int .i64 (ta : Int)) (.int .i64 ti) (.string Y) v
    rw [hs] at this
    exact this
  rw [if_pos k4] at HX
  subst k4
  clear k5 d5
  have hz : ti = 0 ∧ ts = [] := by
    have := mark_core (t := ⟨4, ta, ti, ts⟩) HWt.out (.inl rfl)
    unfold core at this
    simp only [Prod.mk.injEq] at this
    exact ⟨this.2.1, this.2.2⟩
  have HZ : Hid (ti = 0 ∧ ts = []) := hz
  clear hz
  by_cases hd32 : d = 32
  · rw [if_pos hd32] at HX
    have d32 : (32 : Int) ≤ (d : Int) := by omega
    have HX2 : Hid (E = .error (ta, 4)) := HX.symm
    clear HX hd32
    have HS := HTok.out 0 (.slice none 0 0)
    have hz3 : W2.heap.size = w.heap.size + 3 := hs2
    have hq3 : w.heap.size + 2 ≠ R := by omega
    go_wp2_with fail
    obtain ⟨W3, hW3⟩ : ∃ W3, ((W2.setCell ⟨R, 1, none⟩ (.int .i64 ((p : Int) + 1))).setCell ⟨R, 2, none⟩ (.int .i64 ((n : Int) + 1))).alloc (.cells #[.int .i64 0, .int .i64 (ta : Int), .int .i64 ti, .string Y, .slice none 0 0] 46) = W3 := ⟨_, rfl⟩
    rw [hW3] at HS
    rw [hW3]
    have HS3 : Hid (RnSt R L w W3 (p + 1) (n + 1) 4 0 ta ti Y (.slice none 0 0)) := HS
    have hs3 : w.heap.size + 3 < W3.heap.size := HS3.out.lt
    clear hW3 HTok HS x0 x1 x2 x3 y1 y2 yf HB52 HB22 HBw2 HR2 hs2 hR2 hz3
    refine (wat_ex _ _ _).mono ?_
    rintro e w3 ⟨⟨b3, rfl, hB3, hp3⟩, hb3⟩
    have HQ3 := (HS3.out).below hb3 HRw
    obtain ⟨e0, e1, e2, e3, e4, ef⟩ := HQ3.b0.cells
    have z0 := HQ3.b1.c0
    have z1 := HQ3.b1.c1
    have zf0 := HQ3.b1.f 0
    have zf1 := HQ3.b1.f 1
    have HT3 : Hid (Tch R w w3) := HQ3.tch
    have hB3' : W3.heap.size ≤ b3 := hB3
    have hB : w.heap.size + 2 ≤ b3 := by omega
    have HP3 : Hid (PtAt w3 b3 ta) := hp3
    clear hp3 hb3 hB3 HQ3
    go_wp2
    exact bodyPost_ret (v := .tuple #[zeroNd, .agg #[.slice (some ⟨b3, 0, none⟩) 1 1, .int .i64 4]]) (by simp [results, Tryz.results40, go_sem, zeroNd, e0, e1, e2, e3, e4, z0, z1]) rfl (err_res HX2.out HP3.out (by omega) HT3.out)
  · rw [if_neg hd32] at HX
    have d32 : ¬ (32 : Int) ≤ (d : Int) := by omega
    have hdb : (d : Int) < 32 := by omega
    have HS := HTok.out 0 (.slice none 0 0)
    have hq3 : w.heap.size + 2 ≠ R := by omega
    go_wp2_with fail
    obtain ⟨W3, hW3⟩ : ∃ W3, ((W2.setCell ⟨R, 1, none⟩ (.int .i64 ((p : Int) + 1))).setCell ⟨R, 2, none⟩ (.int .i64 ((n : Int) + 1))).alloc (.cells #[.int .i64 0, .int .i64 (ta : Int), .int .i64 ti, .string Y, .slice none 0 0] 46) = W3 := ⟨_, rfl⟩
    rw [hW3] at HS
    rw [hW3]
    have HI0 : Hid (RlAt f R d E L w W3 ta ti Y f (n + 1) (p + 1) [] [] (.slice none 0 0)) := ⟨HX, by rw [HNl.out]; omega, Nat.le_refl _, by omega, Nat.zero_le _, HS, World.ownsRow_nil _ _ _ _, trivial⟩
    clear hW3 HTok HS x0 x1 x2 x3 y1 y2 yf HB52 HB22 HBw2 HR2 hs2 hR2 HX hd32
    go_loopw [11] (fun _ wr => ∃ (f' n p : Nat) (acc : List Nd) (cs : List Nc) (v : Value), Hid (RlAt f R d E L w wr ta ti Y f' n p acc cs v)) (fun _ wr => N - atN wr R)
    case atStart => exact ⟨f, n + 1, p + 1, [], [], _, HI0⟩
    case round =>
      obtain ⟨f', n', p', acc, cs, v, HI⟩ := hrel
      clear HI0
      have hs3 : w.heap.size + 3 < wr.heap.size := HI.out.st.lt
      have hRr : R < wr.heap.size := by omega
      have hpl : p' ≤ N := by have := HI.out.st.at_.1; rw [HNl.out] at this; exact this
      have x1 := HI.out.st.t1
      obtain ⟨g, hg⟩ : ∃ g, f' = g + 1 := ⟨f' - 1, by have := HI.out.len; omega⟩
      subst hg
      by_cases hpe : p' = N
      · obtain ⟨y1, y2, yf⟩ := HI.out.st.at_.c12
        obtain ⟨ao3, cap3, y0⟩ := HI.out.st.at_.c0
        rw [HNl.out] at y0
        have hpd : ((p' : Int) == (N : Int)) = true := by simp; omega
        have HX2 : Hid (E = .error (ta, 3)) := by
          have h1 := HI.out.rd
          rw [List.drop_eq_nil_of_le (by rw [HNl.out]; omega), rdL_nil] at h1
          exact h1.symm
        have HS3 : Hid (RnSt R L w wr p' n' 4 0 ta ti Y v) := HI.out.st
        clear hpe HI
        go_wp2_with fail
        go_quiet (fail)
        go_wp2_with fail
        refine (wat_ex _ _ _).mono ?_
        rintro e w3 ⟨⟨b3, rfl, hB3, hp3⟩, hb3⟩
        have HQ3 := (HS3.out.drewN _).below hb3 HRw
        obtain ⟨e0, e1, e2, e3, e4, ef⟩ := HQ3.b0.cells
        have z0 := HQ3.b1.c0
        have z1 := HQ3.b1.c1
        have zf0 := HQ3.b1.f 0
        have zf1 := HQ3.b1.f 1
        have HT3 : Hid (Tch R w w3) := HQ3.tch
        have hB3' : wr.heap.size ≤ b3 := hB3
        have hB : w.heap.size + 2 ≤ b3 := by omega
        have HP3 : Hid (PtAt w3 b3 ta) := hp3
        clear hp3 hb3 hB3 HQ3
        go_wp2
        exact bodyPost_ret (v := .tuple #[zeroNd, .agg #[.slice (some ⟨b3, 0, none⟩) 1 1, .int .i64 3]]) (by simp [results, Tryz.results40, go_sem, zeroNd, e0, e1, e2, e3, e4, z0, z1]) rfl (err_res HX2.out HP3.out (by omega) HT3.out)
      · have hp1 : p' < L.length := by rw [HNl.out]; omega
        obtain ⟨u, hu⟩ : ∃ u, L[p']? = some u := ⟨_, List.getElem?_eq_getElem hp1⟩
        have hdr2 : L.drop p' = u :: L.drop (p' + 1) := by
          obtain ⟨h1, h2⟩ := List.getElem?_eq_some_iff.1 hu
          rw [List.drop_eq_getElem_cons h1, h2]
        obtain ⟨b4, o4, cap4, u0, u1, u2, uf, hbR4, v0, v1, v2, v3⟩ := HI.out.st.at_.get hu
        rw [HNl.out] at u0
        have hpd : ((p' : Int) == (N : Int)) = false := by simp; omega
        have hpi1 : (p' : Int) < (N : Int) := by omega
        have hpi0 : (0 : Int) ≤ (p' : Int) := by omega
        have hb4 : b4 < wr.heap.size := by omega
        obtain ⟨uk, huk⟩ : ∃ uk, u.k = uk := ⟨_, rfl⟩
        rw [huk] at v0
        clear hu v1 v2 v3 hpe
        by_cases k5 : uk = 5
        · have HX2 : Hid (E = .ok (.mk 0 ta 0 [] acc, n', L.drop (p' + 1))) := by
            have h1 := HI.out.rd
            rw [hdr2, rdL_close _ _ _ _ _ _ _ (huk.trans k5)] at h1
            exact h1.symm
          have d5 : (uk == 5) = true := by simpa using k5
          obtain ⟨e0, e1, e2, e3, e4, ef⟩ := HI.out.st.b0.cells
          obtain ⟨vao, vcap, hv, hvc, hnd⟩ := own_nds (S := geB (w.heap.size + 4)) HI.out.own (HI.out.kids.keep fun k hk _ => ⟨rfl, hk.1⟩) (fun k hk _ => hk)
          subst hv
          obtain ⟨g0, g1, g2, g3, g4, gf⟩ := HI.out.st.b3.cells
          obtain ⟨M, HM⟩ : ∃ M, Hid (acc.length = M) := ⟨_, rfl⟩
          rw [HM.out] at g4 hvc
          have z0 := HI.out.st.b1.c0
          have z1 := HI.out.st.b1.c1
          have zf0 := HI.out.st.b1.f 0
          have zf1 := HI.out.st.b1.f 1
          have HND : Hid (IsNds wr (geB (w.heap.size + 4)) vao acc) := hnd
          have HA : Hid (RfAt wr R L p' n') := HI.out.st.at_
          have HTr : Hid (Tch R w wr) := HI.out.st.tch
          have hq1 : w.heap.size ≠ R := by omega
          have hq2 : w.heap.size + 1 ≠ R := by omega
          have hq4 : w.heap.size + 3 ≠ R := by omega
          clear hnd HI k5 huk hdr2
          go_wp2_with fail
          go_quiet (fail)
          go_wp2_with fail
          go_quiet (fail)
          go_wp2
          have hA : RfAt (wr.setCell ⟨R, 1, none⟩ (.int .i64 ((p' : Int) + 1))) R L (p' + 1) n' := HA.out.setp (p' + 1) (by rw [HNl.out]; omega) _ (by omega)
          refine bodyPost_ret (v := .tuple #[.agg #[.int .i64 (0), .int .i64 ((ta : Int)), .int .i64 (ti), .string (Y), .slice vao M vcap], .agg #[.slice none 0 0, .int .i64 0]]) (by simp [results, Tryz.results40, go_sem, e0, e1, e2, e3, e4, z0, z1]) rfl ⟨?_, ?_⟩
          · rw [HX2.out]
            obtain ⟨h1, h2⟩ := HZ.out
            subst h1 h2
            have hfin : ∀ q j, j ≠ w.heap.size → j ≠ w.heap.size + 1 → (set7 ((wr.drewN q).setCell ⟨R, 1, none⟩ (.int .i64 ((p' : Int) + 1))) w.heap.size (.int .i64 0) (.int .i64 (ta : Int)) (.int .i64 0) (.string Y) (.slice vao M vcap) (.slice none 0 0) (.int .i64 0)).heap[j]? = (wr.setCell ⟨R, 1, none⟩ (.int .i64 ((p' : Int) + 1))).heap[j]? := fun q j h1 h2 => set7_block _ _ _ _ _ _ _ h1 h2
            refine ⟨⟨⟨0, ta, 0, [], vao, M, vcap⟩, by rw [← HY.out]; rfl, rfl, rfl, rfl, rfl, HM.out.symm, hvc, ?_⟩, p' + 1, rfl, hA.keep fun k hk => hfin _ k (by omega) (by omega)⟩
            refine HND.out.keep fun k hk hl => ⟨(hfin _ k ?_ ?_).trans (Below.heap_setCell _ _ _ _ ?_), ?_⟩
            · unfold geB at hk; omega
            · unfold geB at hk; omega
            · show k ≠ R; unfold geB at hk; omega
            · unfold geB at hk ⊢; omega
          · exact set7_tch _ _ _ _ _ _ _ ((HTr.out.drewN _).trans (Tch.set R _ 1 _)) (Nat.le_refl _)
        · have d5 : (uk == 5) = false := by simpa using k5
          obtain ⟨Q, HQ⟩ : ∃ Q, Hid (rdN g (d + 1) n' (L.drop p') = Q) := ⟨_, rfl⟩
          have HCl : Hid (∀ w', RfAt w' R L p' n' → Calls Tryz.prog 40 #[.pointer (some ⟨R, 0, none⟩), .int .i64 ((d : Int) + 1)] w' fun e w2 => RfRes R L w' w2 e Q ∧ Tch R w' w2) := fun w' h => by
            have h1 := HI.out.len
            have h2 := HI.out.le
            have := HNd.out g (by omega) R (d + 1) n' p' L w' HWf.out (by rw [HNl.out]; exact hL) hp1 (by omega) HI.out.cnt (by omega) h
            rw [HQ.out, Int.natCast_add] at this
            exact this
          have HQ2 : Hid (rdN g (d + 1) n' (u :: L.drop (p' + 1)) = Q) := by rw [← hdr2]; exact HQ
          have HRd : Hid (rdL (g + 1) d ta n' (u :: L.drop (p' + 1)) acc = E) := by rw [← hdr2]; exact HI.out.rd
          have hk5 : u.k ≠ 5 := by rw [huk]; exact k5
          rcases Q with ⟨qa, qe⟩ | ⟨x, m, q⟩
          · have HX2 : Hid (E = .error (qa, qe)) := by
              have h1 := HRd.out
              rw [rdL_bad _ _ _ _ _ _ _ _ _ hk5 HQ2.out] at h1
              exact h1.symm
            have hqe : qe ≠ 0 := by
              have := ((rd_errs g).2 (d + 1) n' (u :: L.drop (p' + 1)) qa qe (by rw [List.length_cons, List.length_drop]; have := HI.out.len; omega) (by simp) HI.out.cnt HQ2.out).1
              omega
            have hqd : (qe == 0) = false := by simpa using hqe
            have HS3 : Hid (RnSt R L w wr p' n' 4 0 ta ti Y v) := HI.out.st
            clear k5 huk hk5 hdr2 HQ HQ2 HRd HI
            go_wp2_with fail
            go_quiet (fail)
            go_wp2_with fail
            go_quiet (fail)
            go_wp2_with fail
            refine (HCl.out _ (HS3.out.drewN _).at_).mono ?_
            rintro e w5 ⟨⟨k', a', i', s', ao', n9, cap', v9, rfl, b9, hb9, rfl, hc9, hd9⟩, ht5⟩
            have ht5' : Tch R wr w5 := ⟨ht5.os, ht5.tape, ht5.output, ht5.size, ht5.block⟩
            have HT5 : Hid (Tch R w w5) := HS3.out.tch.trans ht5'
            have hk5 : ∀ k, k < w.heap.size + 4 → k ≠ R → w5.heap[k]? = wr.heap[k]? := fun k hk hn => ht5'.block k (by omega) hn
            have hs5 : w.heap.size + 3 < w5.heap.size := by have := ht5'.size; omega
            have HB05 : Hid (Box5 w5 w.heap.size (.int .i64 0) (.int .i64 0) (.int .i64 0) (.string ⟨#[]⟩) (.slice none 0 0)) := HS3.out.b0.keep (hk5 _ (by omega) (by omega))
            have HB15 : Hid (Two w5 (w.heap.size + 1) 27 (.slice none 0 0) (.int .i64 0)) := by rw [Hid]; unfold Two; rw [hk5 _ (by omega) (by omega)]; exact HS3.out.b1
            have HP9 : Hid (PtAt w5 b9 qa) := ⟨hc9, hd9⟩
            have hb9' : wr.heap.size ≤ b9 := hb9
            have hl9 : b9 < w5.heap.size := World.block_lt_of_cell? w5 ⟨b9, 0, none⟩ hc9
            clear ht5 ht5' hk5 hc9 hd9 hb9 u0 u1 u2 v0 x1
            go_wp2_with fail
            obtain ⟨W6, hW6⟩ : ∃ W6, boxW w5 k' a' i' s' (.slice ao' n9 cap') (.slice (some ⟨b9, 0, none⟩) 1 1) (.int .i64 qe) = W6 := ⟨_, rfl⟩
            have hbl := box_below w5 k' a' i' s' (.slice ao' n9 cap') (.slice (some ⟨b9, 0, none⟩) 1 1) (.int .i64 qe)
            obtain ⟨m0, m1⟩ := box_w (w5 := w5) (k := k') (a := a') (i := i') (s := s') (v := .slice ao' n9 cap') (wv := .slice (some ⟨b9, 0, none⟩) 1 1) (we := .int .i64 qe)
            rw [hW6] at hbl m0 m1
            unfold boxW at hW6
            rw [hW6]
            obtain ⟨e0, e1, e2, e3, e4, ef⟩ := (HB05.out.next hbl).cells
            have z5 := HB15.out.next hbl
            have z0 := z5.c0
            have z1 := z5.c1
            have zf0 := z5.f 0
            have zf1 := z5.f 1
            have HT6 : Hid (Tch R w W6) := HT5.out.below_of hbl
            have HP6 : Hid (PtAt W6 b9 qa) := HP9.out.keep (hbl.block b9 hl9)
            have hs6 : w5.heap.size + 1 ≠ w.heap.size := by omega
            have hs7 : w5.heap.size + 1 ≠ w.heap.size + 1 := by omega
            clear hbl hW6 z5
            go_region
            go_wp2
            refine bodyPost_ret (v := .tuple #[zeroNd, .agg #[.slice (some ⟨b9, 0, none⟩) 1 1, .int .i64 qe]]) (by simp [results, Tryz.results40, go_sem, zeroNd, e0, e1, e2, e3, e4, z0, z1]) rfl ⟨?_, ?_⟩
            · exact (err_res (L := L) HX2.out HP6.out (by omega) HT6.out).1.drew
            · exact (err_res (L := L) HX2.out HP6.out (by omega) HT6.out).2.drew
          · have HX2 : Hid (rdL g d ta m q (acc ++ [x]) = E) := by
              have h1 := HRd.out
              rw [rdL_ok _ _ _ _ _ _ _ _ _ _ hk5 HQ2.out] at h1
              exact h1
            have HLn : Hid _ := rd_len g (d + 1) n' (L.drop p') x m q HI.out.cnt HQ.out
            have HLs : Hid (RlAt f R d E L w wr ta ti Y (g + 1) n' p' acc cs v) := HI
            clear k5 huk hk5 hdr2 HQ HQ2 HRd HI
            go_wp2_with fail
            go_quiet (fail)
            go_wp2_with fail
            go_quiet (fail)
            go_wp2_with fail
            refine (HCl.out _ (HLs.out.st.drewN _).at_).mono ?_
            rintro e w5 ⟨⟨⟨c, rfl, hc⟩, pq, hpq, hA5⟩, ht5⟩
            have ht5' : Tch R wr w5 := ⟨ht5.os, ht5.tape, ht5.output, ht5.size, ht5.block⟩
            have HT5 : Hid (Tch R w w5) := HLs.out.st.tch.trans ht5'
            have hk5 : ∀ k, k < w.heap.size + 4 → k ≠ R → w5.heap[k]? = wr.heap[k]? := fun k hk hn => ht5'.block k (by omega) hn
            have hs5 : w.heap.size + 3 < w5.heap.size := by have := ht5'.size; omega
            have HST : Hid (RnSt R L w w5 pq m 4 0 ta ti Y v) := by
              have h := HLs.out.st
              exact ⟨hA5, HT5.out, h.b0.keep (hk5 _ (by omega) (by omega)), by unfold Two; rw [hk5 _ (by omega) (by omega)]; exact h.b1,
                by rw [World.cell?_of_block (a := ⟨w.heap.size + 2, 0, none⟩) (hk5 _ (by show w.heap.size + 2 < _; omega) (by show w.heap.size + 2 ≠ R; omega))]; exact h.t0,
                by rw [World.cell?_of_block (a := ⟨w.heap.size + 2, 1, none⟩) (hk5 _ (by show w.heap.size + 2 < _; omega) (by show w.heap.size + 2 ≠ R; omega))]; exact h.t1,
                h.b3.keep (hk5 _ (by omega) (by omega))⟩
            have HO2 := ht5'.own (by omega) HLs.out.own
            have HK2 : NcsIs w5 (offB (w.heap.size + 4) v) cs acc := HLs.out.kids.keep fun k hk hl => ⟨ht5'.block k hl (by have := hk.1; omega), hk⟩
            have hov : ∀ k, v.ownBlock = some k → k < wr.heap.size := fun k hk => (HLs.out.own.lt k hk).2
            have HC : Hid (NcIs w5 (offB (w.heap.size + 4) v) c x) := hc.keep fun k hk _ => ⟨rfl, by have hk' : wr.heap.size ≤ k := hk; omega, fun e => by have := hov k e; have hk' : wr.heap.size ≤ k := hk; omega⟩
            obtain ⟨vao, vn, vcap, hv⟩ : ∃ vao vn vcap, v = .slice vao vn vcap := by
              rcases HO2.2 with ⟨e, _⟩ | ⟨gg, cap, cur, e, _⟩
              · exact ⟨_, _, _, e⟩
              · exact ⟨_, _, _, e⟩
            obtain ⟨ck, ca, ci, css, cao, cn, ccap⟩ := c
            subst hv
            obtain ⟨i0, hi, hz0, hz1', hz2'⟩ := inRN'
            have HOw : Hid (w5.ownsRow (w.heap.size + 4) 46 5 (.slice vao vn vcap) cs.length (ncsC cs)) := HO2
            have HKw : Hid (NcsIs w5 (offB (w.heap.size + 4) (.slice vao vn vcap)) cs acc) := HK2
            have hcl : cs.length ≤ 4096 := by have := HKw.out.len; have := HLs.out.acl; have := HLs.out.cnt; omega
            obtain ⟨g0, g1, g2, g3, g4, gf⟩ := HST.out.b3.cells
            have hs6 : w.heap.size + 3 < w5.heap.size + 1 := by omega
            have hs7 : w.heap.size + 3 < w5.heap.size + 1 + 1 := by omega
            have hs8 : w.heap.size + 3 ≠ w5.heap.size := by omega
            have hs9 : w.heap.size + 3 ≠ w5.heap.size + 1 := by omega
            have hs10 : w.heap.size + 3 ≠ w5.heap.size + 1 + 1 := by omega
            clear ht5 ht5' hk5 hc hA5 u0 u1 u2 v0 x1 HO2 HK2 hov
            unfold nodeV
            simp only
            go_wp2_with (at_builtin; refine wpList_append_lies _ rfl _ _ 24 rfl (w.heap.size + 4) 46 i0 zeroNd 5 64 Tryz.underlying24 hi hz0 hz1' hz2' rfl (by decide) _ _ _ rfl (((HOw.out.alloc _).alloc _).alloc _) ⟨w5.heap.size + 1 + 1, 0, none⟩ 1 1 [.int .i64 ck, .int .i64 (ca : Int), .int .i64 ci, .string (baL css), .slice cao cn ccap] rfl rfl ?c1 ?c2 (by decide) ?c3 ?c4 ?c5 _ rfl ?_)
            case c1 =>
              intro j u hj
              match j, hj with
              | 0, hj => simp at hj; subst hj; simp [Addr.add]; exact box_cell (by simp) rfl
              | 1, hj => simp at hj; subst hj; simp [Addr.add]; exact box_cell (by simp) rfl
              | 2, hj => simp at hj; subst hj; simp [Addr.add]; exact box_cell (by simp) rfl
              | 3, hj => simp at hj; subst hj; simp [Addr.add]; exact box_cell (by simp) rfl
              | 4, hj => simp at hj; subst hj; simp [Addr.add]; exact box_cell (by simp) rfl
            case c2 => intro u hu; simp at hu; rcases hu with rfl | rfl | rfl | rfl | rfl <;> rfl
            case c3 => unfold maxLen; omega
            case c4 => omega
            case c5 => simp; omega
            intro gk gcap w3 ho hg hv3 hlt3
            have hob : ∀ k, (Value.slice vao vn vcap).ownBlock = some k → w.heap.size + 4 ≤ k := fun k hk => (HOw.out.lt k hk).1
            have HO3 : Hid (w3.ownsRow (w.heap.size + 4) 46 5 (.slice (some ⟨gk, 0, none⟩) (cs.length + 1) gcap) (cs ++ [(⟨ck, ca, ci, css, cao, cn, ccap⟩ : Nc)]).length (ncsC (cs ++ [(⟨ck, ca, ci, css, cao, cn, ccap⟩ : Nc)]))) := by
              rw [← ncs_snoc, Hid, List.length_append]; exact ho
            have HK3 : Hid (NcsIs w3 (offB (w.heap.size + 4) (.slice (some ⟨gk, 0, none⟩) (cs.length + 1) gcap)) (cs ++ [(⟨ck, ca, ci, css, cao, cn, ccap⟩ : Nc)]) (acc ++ [x])) :=
              ncs_grow (((((NcsIs.snoc HC.out HKw.out).next (alloc_below _ _)).next (alloc_below _ _)).next (alloc_below _ _))) hg hv3 (by simp)
            have hgb : ∀ k, k < w.heap.size + 4 → w3.heap[k]? = w5.heap[k]? := fun k hk => by
              rw [hg.block k (by simp; omega) (fun e => by have := hob k e.symm; omega), Below.heap_alloc _ _ _ (by simp; omega), Below.heap_alloc _ _ _ (by simp; omega), Below.heap_alloc _ _ _ (by omega)]
            have HT3 : Tch R w w3 := (((HT5.out.below_of (alloc_below _ _)).below_of (alloc_below _ _)).below_of (alloc_below _ _)).grown hg fun k hk => by have := hob k hk; omega
            have HS3 : Hid (RnSt R L w w3 pq m 4 0 ta ti Y (.slice vao vn vcap)) := HST.out.keep HT3 hgb HRw
            obtain ⟨f0, f1, f2, f3, f4, ff⟩ := HS3.out.b3.cells
            clear ho hg hv3 hob hgb HT3 g0 g1 g2 g3 g4 gf hs6 hs7 hs8 hs9 hs10
            go_wp2
            go_roundw
            case rel =>
              have hpq2 : L.length - pq + 1 ≤ L.length - p' := by
                have h1 := congrArg List.length hpq
                have h2 := HLn.out.1
                rw [List.length_drop] at h1 h2
                omega
              refine ⟨g, m, pq, acc ++ [x], cs ++ [(⟨ck, ca, ci, css, cao, cn, ccap⟩ : Nc)], .slice (some ⟨gk, 0, none⟩) (cs.length + 1) gcap, by rw [hpq]; exact HX2.out, ?_, ?_, HLn.out.2.2.1, ?_, ?_, ownsRow_setCell_below HO3.out (by show w.heap.size + 3 < w.heap.size + 4; omega) _, ?_⟩
              · have := HLs.out.len; omega
              · have := HLs.out.le; omega
              · have := HLs.out.acl; have := HLn.out.2.1; rw [List.length_append, List.length_singleton]; omega
              · have h := HS3.out
                have hk : ∀ k, k ≠ w.heap.size + 3 → (w3.setCell ⟨w.heap.size + 3, 4, none⟩ (.slice (some ⟨gk, 0, none⟩) (cs.length + 1) gcap)).heap[k]? = w3.heap[k]? := fun k hk => Below.heap_setCell _ _ _ _ (by exact hk)
                exact ⟨h.at_.keep fun k hk' => hk k (by omega), h.tch.set' (by omega), h.b0.keep (hk _ (by omega)), by unfold Two; rw [hk _ (by omega)]; exact h.b1,
                  by rw [World.cell?_of_block (a := ⟨w.heap.size + 2, 0, none⟩) (hk _ (by show w.heap.size + 2 ≠ _; omega))]; exact h.t0,
                  by rw [World.cell?_of_block (a := ⟨w.heap.size + 2, 1, none⟩) (hk _ (by show w.heap.size + 2 ≠ _; omega))]; exact h.t1, h.b3.set4 _⟩
              · exact HK3.out.keep fun k hk _ => ⟨Below.heap_setCell _ _ _ _ (by show k ≠ w.heap.size + 3; have := hk.1; omega), hk⟩
            case measure =>
              have h1 := congrArg List.length hpq
              have h2 := HLn.out.1
              rw [List.length_drop] at h1 h2
              have h3 : RfAt (w3.setCell ⟨w.heap.size + 3, 4, none⟩ (.slice (some ⟨gk, 0, none⟩) (cs.length + 1) gcap)) R L pq m := HS3.out.at_.set (by omega)
              rw [h3.atN, HLs.out.st.at_.atN, ← HNl.out]
              omega
end Go.Proofs.YtnhbjhdkpbhioaaGreatDoor
namespace Go.Proofs.YtnhbjhdkpbhioaaGreatDoor
open Go.RowKit
theorem rnode_all (f : Nat) : RNodeC f := by
  induction f using Nat.strongRecOn with
  | ind f ih =>
    intro R d n p L w hW hL hp hf hn hd hr
    obtain ⟨t, ht⟩ : ∃ t, L[p]? = some t := ⟨_, List.getElem?_eq_getElem hp⟩
    by_cases k5 : t.k = 5
    · exact rn_close f ih R d n p L w hW hL hp hf hn hd hr t ht k5
    by_cases hn4 : n = 4096
    · exact rn_full f ih R d n p L w hW hL hp hf hn hd hr t ht k5 hn4
    by_cases k8 : t.k = 8
    · exact rn_not f ih R d n p L w hW hL hp hf hn hd hr t ht k5 hn4 k8
    by_cases k4 : t.k = 4
    · exact rn_list f ih R d n p L w hW hL hp hf hn hd hr t ht k5 hn4 k4
    · exact rn_leaf f ih R d n p L w hW hL hp hf hn hd hr t ht k5 hn4 k8 k4
structure RReadR (w w' : World) (e : Ending) (r : OutN) : Prop where
  bel : Below w.heap.size w w'
  res : (r.e = 0 ∧ ∃ ao cap, e = .returned (.tuple #[.slice ao r.l.length cap, .agg #[.slice none 0 0, .int .i64 0]]) ∧ r.l.length ≤ cap ∧ IsNds w' (geB w.heap.size) ao r.l) ∨
    (r.e ≠ 0 ∧ ∃ b, w.heap.size ≤ b ∧ e = .returned (.tuple #[.slice none 0 0, .agg #[.slice (some ⟨b, 0, none⟩) 1 1, .int .i64 r.e]]) ∧ PtAt w' b r.a)
structure RtAt (R : Nat) (E : OutN) (L : List Tk) (w wr : World) (f' n p : Nat) (acc : List Nd) (cs : List Nc) (v : Value) : Prop where
  rd : rdT f' n (L.drop p) acc = E
  len : L.length - p + 1 ≤ f'
  cnt : n ≤ 4096
  acl : acc.length ≤ n
  at_ : RfAt wr R L p n
  tch : Tch R w wr
  own : wr.ownsRow (R + 1) 46 5 v cs.length (ncsC cs)
  kids : NcsIs wr (offB (R + 1) v) cs acc
set_option maxHeartbeats 8000000 in
set_option maxRecDepth 20000 in
theorem rread_any (ao : Option Addr) (n cap : Nat) (l : List UInt8) (w : World) (hl : l.length = n) (h : IsB w ao l) (hn : n ≤ 65536) (hc : n ≤ cap) :
    Calls Tryz.prog 8 #[.slice ao n cap] w fun e w' => RReadR w w' e (readQ l) := by
  obtain ⟨R0, HR0⟩ : ∃ R0, Hid (scanQ l 0 [] = R0) := ⟨_, rfl⟩
  have HQ : Hid (readQ l = if R0.e = 0 then rdT (R0.l.length + 1) 0 R0.l [] else ⟨[], R0.a, R0.e⟩) := readQ_of HR0.out
  rw [HQ.out]
  have HSc : Hid (Calls Tryz.prog 38 #[.slice ao n cap] (w.alloc (.cells #[.slice none 0 0, .int .i64 0] 27)) fun e w' => RScanR (w.alloc (.cells #[.slice none 0 0, .int .i64 0] 27)) w' e R0) := by rw [← HR0.out]; exact rscan_any ao n cap l _ hl (h.next (alloc_below _ _)) hn hc
  have HWf : Hid (∀ t ∈ R0.l, WfT t.k t.i t.s) := by have := scanQ_wf l; rw [HR0.out] at this; exact this
  have hLl : R0.l.length ≤ 65536 := by have := scanQ_len l; rw [HR0.out] at this; omega
  have HB0 : Hid (Two (w.alloc (.cells #[.slice none 0 0, .int .i64 0] 27)) w.heap.size 27 (.slice none 0 0) (.int .i64 0)) := by
    show (w.heap.push _)[w.heap.size]? = _
    rw [Array.getElem?_push_size]
  clear h hl HQ HR0
  by_cases he : R0.e = 0
  · rw [if_pos he]
    obtain ⟨E, HE⟩ : ∃ E, Hid (rdT (R0.l.length + 1) 0 R0.l [] = E) := ⟨_, rfl⟩
    rw [HE.out]
    go_enter Tryz.func8, Tryz.ntmps8
    go_wp2_with fail
    refine HSc.out.mono ?_
    rintro e w1 ⟨hb1, v, rfl, ho1⟩
    obtain ⟨to, tc, hv, ht⟩ := own_toks ho1
    obtain ⟨htc, hto⟩ : R0.l.length ≤ tc ∧ ∀ a, to = some a → a.block < w1.heap.size := by
      have hlt := ho1.lt
      rcases ho1.2 with ⟨e, h0⟩ | ⟨g, cap, cur, e, _, _, hcap, _⟩
      · rw [hv] at e
        injection e with e1 _ e3
        exact ⟨by omega, fun a ha => by rw [e1] at ha; exact absurd ha (by simp)⟩
      · rw [e] at hlt
        rw [hv] at e
        injection e with e1 _ e3
        exact ⟨by omega, fun a ha => by rw [e1] at ha; rw [← Option.some.inj ha]; exact (hlt g rfl).2⟩
    subst hv
    have HB1 : Hid (Below w.heap.size w w1) := next_trans (alloc_below _ _) hb1
    have HB01 : Hid (Two w1 w.heap.size 27 (.slice none 0 0) (.int .i64 0)) := HB0.out.next hb1
    obtain ⟨L, la, le⟩ := R0
    simp only at he HE ht htc HWf hLl ⊢
    subst he
    obtain ⟨N, HN⟩ : ∃ N, Hid (L.length = N) := ⟨_, rfl⟩
    have HS : Hid (RtAt w1.heap.size E L w1 (w1.alloc (.cells #[.slice to N tc, .int .i64 0, .int .i64 0] 103)) (N + 1) 0 0 [] [] (.slice none 0 0)) := by
      rw [← HN.out]
      have hA : RfAt (w1.alloc (.cells #[.slice to L.length tc, .int .i64 0, .int .i64 0] 103)) w1.heap.size L 0 0 := by
        refine ⟨Nat.zero_le _, to, tc, ?_, htc, ht.next (alloc_below _ _), hto⟩
        show (w1.heap.push _)[w1.heap.size]? = _
        rw [Array.getElem?_push_size]; rfl
      exact ⟨HE.out, Nat.le_refl _, Nat.zero_le _, Nat.zero_le _, hA, Tch.alloc _ _ _, World.ownsRow_nil _ _ _ _, trivial⟩
    rw [HN.out] at hLl ⊢
    have hsz : w.heap.size + 1 ≤ w1.heap.size := by have := hb1.size; simp at this; omega
    clear ho1 hb1 ht hto htc HSc HE HB0
    go_wp2
    go_loopw [8] (fun v wr => ∃ (f' n p : Nat) (acc : List Nd) (cs : List Nc), Hid (RtAt w1.heap.size E L w1 wr f' n p acc cs v)) (fun _ wr => N - atN wr w1.heap.size)
    case atStart => exact ⟨N + 1, 0, 0, [], [], HS⟩
    case round =>
      obtain ⟨f', n', p', acc, cs, HI⟩ := hrel
      clear HS
      have hpl : p' ≤ N := by have := HI.out.at_.1; rw [HN.out] at this; exact this
      have hRr : w1.heap.size < wr.heap.size := HI.out.at_.lt
      obtain ⟨y1, y2, yf⟩ := HI.out.at_.c12
      obtain ⟨g, hg⟩ : ∃ g, f' = g + 1 := ⟨f' - 1, by have := HI.out.len; omega⟩
      subst hg
      have HB0r : Hid (Two wr w.heap.size 27 (.slice none 0 0) (.int .i64 0)) := by rw [Hid]; unfold Two; rw [HI.out.tch.block _ (by omega) (by omega)]; exact HB01.out
      by_cases hpe : p' = N
      · have hli : ¬ (p' : Int) < (N : Int) := by omega
        have HX2 : Hid (E = ⟨acc, 0, 0⟩) := by
          have h1 := HI.out.rd
          rw [List.drop_eq_nil_of_le (by rw [HN.out]; omega), rdT_nil] at h1
          exact h1.symm
        obtain ⟨vao, vcap, hv, hvc, hnd⟩ := own_nds (S := geB w.heap.size) HI.out.own (HI.out.kids.keep fun k hk _ => ⟨rfl, by have := hk.1; unfold geB; omega⟩) (fun k hk _ => by unfold geB; omega)
        subst hv
        have HND : Hid (IsNds wr (geB (w.heap.size + 1)) vao acc) := by
          obtain ⟨vao', vcap', hv', _, hnd'⟩ := own_nds (S := geB (w.heap.size + 1)) HI.out.own (HI.out.kids.keep fun k hk _ => ⟨rfl, by have := hk.1; unfold geB; omega⟩) (fun k hk _ => by unfold geB; omega)
          injection hv' with e1
          subst e1
          exact hnd'
        have HT1 : Hid (Below w.heap.size w wr) := HB1.out.trans (HI.out.tch.below (by omega) (by omega))
        have z0 := HB0r.out.c0
        have z1 := HB0r.out.c1
        have zf0 := HB0r.out.f 0
        have zf1 := HB0r.out.f 1
        obtain ⟨M, HM⟩ : ∃ M, Hid (acc.length = M) := ⟨_, rfl⟩
        rw [HM.out] at hvc ⊢
        clear HI hnd hpe
        go_wp2
        refine bodyPost_ret (v := .tuple #[.slice vao M vcap, .agg #[.slice none 0 0, .int .i64 0]]) (by simp [results, Tryz.results8, go_sem, z0, z1]) rfl ?_
        rw [HX2.out]
        refine ⟨(HT1.out.setCell (p := ⟨w.heap.size, 0, none⟩) (Nat.le_refl _) _).setCell (p := ⟨w.heap.size, 1, none⟩) (Nat.le_refl _) _, .inl ⟨rfl, vao, vcap, by rw [← HM.out], by rw [HM.out]; exact hvc, ?_⟩⟩
        exact HND.out.keep fun k hk _ => ⟨by rw [Below.heap_setCell _ _ _ _ (by show k ≠ w.heap.size; unfold geB at hk; omega), Below.heap_setCell _ _ _ _ (by show k ≠ w.heap.size; unfold geB at hk; omega)], by unfold geB at hk ⊢; omega⟩
      · have hli : (p' : Int) < (N : Int) := by omega
        have hp1 : p' < L.length := by rw [HN.out]; omega
        obtain ⟨u, hu⟩ : ∃ u, L[p']? = some u := ⟨_, List.getElem?_eq_getElem hp1⟩
        have hdr2 : L.drop p' = u :: L.drop (p' + 1) := by
          obtain ⟨h1, h2⟩ := List.getElem?_eq_some_iff.1 hu
          rw [List.drop_eq_getElem_cons h1, h2]
        obtain ⟨Q, HQ⟩ : ∃ Q, Hid (rdN g 0 n' (L.drop p') = Q) := ⟨_, rfl⟩
        have HCl : Hid (Calls Tryz.prog 40 #[.pointer (some ⟨w1.heap.size, 0, none⟩), .int .i64 0] wr fun e w2 => RfRes w1.heap.size L wr w2 e Q ∧ Tch w1.heap.size wr w2) := by
          have h1 := HI.out.len
          have := rnode_all g w1.heap.size 0 n' p' L wr HWf.out (by rw [HN.out]; omega) hp1 (by omega) HI.out.cnt (by omega) HI.out.at_
          rw [HQ.out] at this
          exact this
        have HQ2 : Hid (rdN g 0 n' (u :: L.drop (p' + 1)) = Q) := by rw [← hdr2]; exact HQ
        have HRd : Hid (rdT (g + 1) n' (u :: L.drop (p' + 1)) acc = E) := by rw [← hdr2]; exact HI.out.rd
        rcases Q with ⟨qa, qe⟩ | ⟨x, m, q⟩
        · have HX2 : Hid (E = ⟨[], qa, qe⟩) := by
            have h1 := HRd.out
            rw [rdT_bad _ _ _ _ _ _ _ HQ2.out] at h1
            exact h1.symm
          have hqe : qe ≠ 0 := by
            have := ((rd_errs g).2 0 n' (u :: L.drop (p' + 1)) qa qe (by rw [List.length_cons, List.length_drop]; have := HI.out.len; omega) (by simp) HI.out.cnt HQ2.out).1
            omega
          have hqd : (qe == 0) = false := by simpa using hqe
          have HNz : Hid (qe ≠ 0) := hqe
          have HTr : Hid (Tch w1.heap.size w1 wr) := HI.out.tch
          clear hqe hu hdr2 HQ HQ2 HRd HI hpe
          go_wp2_with fail
          refine HCl.out.mono ?_
          rintro e w5 ⟨⟨k', a', i', s', ao', n9, cap', v9, rfl, b9, hb9, rfl, hc9, hd9⟩, ht5⟩
          have HB15 : Hid (Two w5 w.heap.size 27 (.slice none 0 0) (.int .i64 0)) := by rw [Hid]; unfold Two; rw [ht5.block _ (by omega) (by omega)]; exact HB0r.out
          have HP9 : Hid (PtAt w5 b9 qa) := ⟨hc9, hd9⟩
          have hl9 : b9 < w5.heap.size := World.block_lt_of_cell? w5 ⟨b9, 0, none⟩ hc9
          have HT5 : Hid (Below w.heap.size w w5) := HB1.out.trans ((HTr.out.trans ht5).below (by omega) (by omega))
          have hs5 : w.heap.size < w5.heap.size := by have := ht5.size; omega
          clear ht5 hc9 hd9 HCl y1 y2 yf
          go_wp2_with fail
          obtain ⟨W6, hW6⟩ : ∃ W6, boxW w5 k' a' i' s' (.slice ao' n9 cap') (.slice (some ⟨b9, 0, none⟩) 1 1) (.int .i64 qe) = W6 := ⟨_, rfl⟩
          have hbl := box_below w5 k' a' i' s' (.slice ao' n9 cap') (.slice (some ⟨b9, 0, none⟩) 1 1) (.int .i64 qe)
          obtain ⟨m0, m1⟩ := box_w (w5 := w5) (k := k') (a := a') (i := i') (s := s') (v := .slice ao' n9 cap') (wv := .slice (some ⟨b9, 0, none⟩) 1 1) (we := .int .i64 qe)
          rw [hW6] at hbl m0 m1
          unfold boxW at hW6
          rw [hW6]
          have z5 := HB15.out.next hbl
          have z0 := z5.c0
          have z1 := z5.c1
          have zf0 := z5.f 0
          have zf1 := z5.f 1
          have HT6 : Hid (Below w.heap.size w W6) := next_trans HT5.out hbl
          have HP6 : Hid (PtAt W6 b9 qa) := HP9.out.keep (hbl.block b9 hl9)
          have hs6 : w5.heap.size + 1 ≠ w.heap.size := by omega
          clear hbl hW6 z5
          go_region
          go_wp2
          refine bodyPost_ret (v := .tuple #[.slice none 0 0, .agg #[.slice (some ⟨b9, 0, none⟩) 1 1, .int .i64 qe]]) (by simp [results, Tryz.results8, go_sem, z0, z1]) rfl ?_
          rw [HX2.out]
          have hP := HP6.out.keep (w' := (W6.setCell ⟨w.heap.size, 0, none⟩ (.slice (some ⟨b9, 0, none⟩) 1 1)).setCell ⟨w.heap.size, 1, none⟩ (.int .i64 qe)) (by
            rw [Below.heap_setCell _ _ _ _ (by show b9 ≠ w.heap.size; omega), Below.heap_setCell _ _ _ _ (by show b9 ≠ w.heap.size; omega)])
          exact ⟨((HT6.out.setCell (p := ⟨w.heap.size, 0, none⟩) (Nat.le_refl _) _).setCell (p := ⟨w.heap.size, 1, none⟩) (Nat.le_refl _) _).drew, .inr ⟨HNz.out, b9, by omega, rfl, hP.1, hP.2⟩⟩
        · have HX2 : Hid (rdT g m q (acc ++ [x]) = E) := by
            have h1 := HRd.out
            rw [rdT_ok _ _ _ _ _ _ _ _ HQ2.out] at h1
            exact h1
          have HLn : Hid _ := rd_len g 0 n' (L.drop p') x m q HI.out.cnt HQ.out
          have HLs : Hid (RtAt w1.heap.size E L w1 wr (g + 1) n' p' acc cs u8) := HI
          clear hu hdr2 HQ HQ2 HRd HI hpe
          go_wp2_with fail
          refine HCl.out.mono ?_
          rintro e w5 ⟨⟨⟨c, rfl, hc⟩, pq, hpq, hA5⟩, ht5⟩
          have HO2 := ht5.own (by omega) HLs.out.own
          have HK2 : NcsIs w5 (offB (w1.heap.size + 1) u8) cs acc := HLs.out.kids.keep fun k hk hl => ⟨ht5.block k hl (by have := hk.1; omega), hk⟩
          have hov : ∀ k, u8.ownBlock = some k → k < wr.heap.size := fun k hk => (HLs.out.own.lt k hk).2
          have HC : Hid (NcIs w5 (offB (w1.heap.size + 1) u8) c x) := hc.keep fun k hk _ => ⟨rfl, by unfold geB at hk; omega, fun e => by have := hov k e; unfold geB at hk; omega⟩
          have hz2 : w1.heap.size + 1 ≤ w5.heap.size := by have := ht5.size; omega
          have HT2 : Hid (Tch w1.heap.size w1 w5) := HLs.out.tch.trans ht5
          have HR2 : Hid (RfAt w5 w1.heap.size L pq m) := hA5
          obtain ⟨ck, ca, ci, css, cao, cn, ccap⟩ := c
          obtain ⟨i0, hi, hz0, hz1', hz2'⟩ := inRN'
          have HOw : Hid (w5.ownsRow (w1.heap.size + 1) 46 5 u8 cs.length (ncsC cs)) := HO2
          have HKw : Hid (NcsIs w5 (offB (w1.heap.size + 1) u8) cs acc) := HK2
          have hcl : cs.length ≤ 4096 := by have := HKw.out.len; have := HLs.out.acl; have := HLs.out.cnt; omega
          clear HCl hc hA5 ht5 HO2 HK2 hov y1 y2 yf
          unfold nodeV
          simp only
          go_wp2_with (at_builtin; refine wpList_append_lies _ rfl _ _ 24 rfl (w1.heap.size + 1) 46 i0 zeroNd 5 64 Tryz.underlying24 hi hz0 hz1' hz2' rfl (by decide) _ _ _ rfl (((HOw.out.alloc _).alloc _).alloc _) ⟨w5.heap.size + 1 + 1, 0, none⟩ 1 1 [.int .i64 ck, .int .i64 (ca : Int), .int .i64 ci, .string (baL css), .slice cao cn ccap] rfl rfl ?c1 ?c2 (by decide) ?c3 ?c4 ?c5 _ rfl ?_)
          case c1 =>
            intro j u hj
            match j, hj with
            | 0, hj => simp at hj; subst hj; simp [Addr.add]; exact box_cell (by simp) rfl
            | 1, hj => simp at hj; subst hj; simp [Addr.add]; exact box_cell (by simp) rfl
            | 2, hj => simp at hj; subst hj; simp [Addr.add]; exact box_cell (by simp) rfl
            | 3, hj => simp at hj; subst hj; simp [Addr.add]; exact box_cell (by simp) rfl
            | 4, hj => simp at hj; subst hj; simp [Addr.add]; exact box_cell (by simp) rfl
          case c2 => intro u hu; simp at hu; rcases hu with rfl | rfl | rfl | rfl | rfl <;> rfl
          case c3 => unfold maxLen; omega
          case c4 => omega
          case c5 => simp; omega
          intro gk gcap w3 ho hg hv3 hlt3
          have hob : ∀ k, u8.ownBlock = some k → w1.heap.size + 1 ≤ k := fun k hk => (HOw.out.lt k hk).1
          have HO3 : Hid (w3.ownsRow (w1.heap.size + 1) 46 5 (.slice (some ⟨gk, 0, none⟩) (cs.length + 1) gcap) (cs ++ [(⟨ck, ca, ci, css, cao, cn, ccap⟩ : Nc)]).length (ncsC (cs ++ [(⟨ck, ca, ci, css, cao, cn, ccap⟩ : Nc)]))) := by
            rw [← ncs_snoc, Hid, List.length_append]; exact ho
          have HK3 : Hid (NcsIs w3 (offB (w1.heap.size + 1) (.slice (some ⟨gk, 0, none⟩) (cs.length + 1) gcap)) (cs ++ [(⟨ck, ca, ci, css, cao, cn, ccap⟩ : Nc)]) (acc ++ [x])) :=
            ncs_grow (((((NcsIs.snoc HC.out HKw.out).next (alloc_below _ _)).next (alloc_below _ _)).next (alloc_below _ _))) hg hv3 (by simp)
          have hgb : ∀ k, k < w1.heap.size + 1 → w3.heap[k]? = w5.heap[k]? := fun k hk => by
            rw [hg.block k (by simp; omega) (fun e => by have := hob k e.symm; omega), Below.heap_alloc _ _ _ (by simp; omega), Below.heap_alloc _ _ _ (by simp; omega), Below.heap_alloc _ _ _ (by omega)]
          have HT3 : Hid (Tch w1.heap.size w1 w3) := (((HT2.out.below_of (alloc_below _ _)).below_of (alloc_below _ _)).below_of (alloc_below _ _)).grown hg fun k hk => by have := hob k hk; omega
          have HR3 : Hid (RfAt w3 w1.heap.size L pq m) := HR2.out.keep fun k hk => hgb k (by omega)
          clear ho hg hv3 hob hgb
          go_wp2
          go_roundw
          case rel =>
            refine ⟨g, m, pq, acc ++ [x], cs ++ [(⟨ck, ca, ci, css, cao, cn, ccap⟩ : Nc)], by rw [hpq]; exact HX2.out, ?_, HLn.out.2.2.1, ?_, HR3.out, HT3.out, HO3.out, HK3.out⟩
            · have h1 := congrArg List.length hpq
              have h2 := HLn.out.1
              have := HLs.out.len
              rw [List.length_drop] at h1 h2
              omega
            · have := HLs.out.acl; have := HLn.out.2.1; rw [List.length_append, List.length_singleton]; omega
          case measure =>
            have h1 := congrArg List.length hpq
            have h2 := HLn.out.1
            rw [List.length_drop] at h1 h2
            rw [HR3.out.atN, HLs.out.at_.atN, ← HN.out]
            omega
  · rw [if_neg he]
    have hed : (R0.e == 0) = false := by simpa using he
    have HNz : Hid (R0.e ≠ 0) := he
    obtain ⟨L, la, le⟩ := R0
    simp only at hed HNz HSc ⊢
    clear he HWf hLl
    go_enter Tryz.func8, Tryz.ntmps8
    go_wp2_with fail
    refine HSc.out.mono ?_
    rintro e w1 ⟨hb1, v, rfl, ho1⟩
    obtain ⟨to, tc, hv, ht⟩ := own_toks ho1
    subst hv
    have HB1 : Hid (Below w.heap.size w w1) := next_trans (alloc_below _ _) hb1
    have HB01 : Hid (Two w1 w.heap.size 27 (.slice none 0 0) (.int .i64 0)) := HB0.out.next hb1
    have hsz : w.heap.size + 1 ≤ w1.heap.size := by have := hb1.size; simp at this; omega
    simp only
    clear ho1 hb1 ht HSc HB0
    go_wp2_with fail
    refine (wat_ex _ _ _).mono ?_
    rintro e w3 ⟨⟨b3, rfl, hB3, hp3⟩, hb3⟩
    have z5 := HB01.out.next hb3
    have z0 := z5.c0
    have z1 := z5.c1
    have zf0 := z5.f 0
    have zf1 := z5.f 1
    have HT3 : Hid (Below w.heap.size w w3) := next_trans HB1.out hb3
    have HP3 : Hid (PtAt w3 b3 la) := hp3
    clear hp3 hb3 z5
    go_wp2
    refine bodyPost_ret (v := .tuple #[.slice none 0 0, .agg #[.slice (some ⟨b3, 0, none⟩) 1 1, .int .i64 le]]) (by simp [results, Tryz.results8, go_sem, z0, z1]) rfl ?_
    have hP := HP3.out.keep (w' := (w3.setCell ⟨w.heap.size, 0, none⟩ (.slice (some ⟨b3, 0, none⟩) 1 1)).setCell ⟨w.heap.size, 1, none⟩ (.int .i64 le)) (by
      rw [Below.heap_setCell _ _ _ _ (by show b3 ≠ w.heap.size; omega), Below.heap_setCell _ _ _ _ (by show b3 ≠ w.heap.size; omega)])
    exact ⟨(HT3.out.setCell (p := ⟨w.heap.size, 0, none⟩) (Nat.le_refl _) _).setCell (p := ⟨w.heap.size, 1, none⟩) (Nat.le_refl _) _, .inr ⟨HNz.out, b3, by omega, rfl, hP.1, hP.2⟩⟩
end Go.Proofs.YtnhbjhdkpbhioaaGreatDoor
