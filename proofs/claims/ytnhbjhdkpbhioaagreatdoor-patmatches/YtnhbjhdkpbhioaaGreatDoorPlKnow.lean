import Derived.Test.YtnhbjhdkpbhioaaGreatDoorH4
import Derived.Test.YtnhbjhdkpbhioaaGreatDoorH2
import Derived.Test.YtnhbjhdkpbhioaaGreatDoorPtParse
import Derived.Test.YtnhbjhdkpbhioaaGreatDoorH1
import Derived.Test.YtnhbjhdkpbhioaaGreatDoorG29
import Derived.Test.YtnhbjhdkpbhioaaGreatDoorG14
import Derived.Deep.RegionHeld3
namespace Go.Proofs.YtnhbjhdkpbhioaaGreatDoor
open Go.RowKit
theorem cnt_kpN : cntN kpN ≤ 30 := by simp only [kpN, cntN_mk, cntL_cons, cntL_nil]; omega
theorem par_rd {w w' : World} {e : Ending} (h : PpR T2 kpN w w' e) : (∃ ao cap, e = .returned (.tuple #[.agg #[.string (baL [112]), .slice ao 2 cap], .nilIface]) ∧ IsTss w' ao kpL) ∧ Below w.heap.size w w' := by
  refine ⟨?_, h.bel⟩
  rcases h.res with ⟨p, ao, cap, h1, h2, h3⟩ | ⟨a, f, B, h1, _⟩
  · rw [par_kp] at h1
    injection h1 with h1
    subst h1
    exact ⟨ao, cap, h2, h3⟩
  · rw [par_kp] at h1; cases h1
theorem sl_one {w : World} {ao : Option Addr} {s : Sl} (h : IsSls w ao [s]) : ∃ b o, ao = some ⟨b, o, none⟩ ∧ w.cell? ⟨b, o, none⟩ = some (.string s.n) ∧ w.cell? ⟨b, o + 1, none⟩ = some (.int .i64 s.k) ∧ w.cell? ⟨b, o + 2, none⟩ = some (.int .i64 s.i) ∧ w.cell? ⟨b, o + 3, none⟩ = some (.string s.s) := by
  obtain ⟨b, o, h0, h1, h2, h3, h4⟩ := h 0 s rfl
  rw [Nat.zero_mul, Nat.add_zero] at h1 h2 h3 h4
  exact ⟨b, o, h0, h1, h2, h3, h4⟩
set_option linter.unusedSimpArgs false in
set_option maxHeartbeats 16000000 in
set_option maxRecDepth 8000 in
theorem known11 (w : World) (ht : TabW w) (hm : MaxW w) :
    Calls Tryz.prog 7 #[] w fun e w' => e = .returned (.bool true) ∧ Below w.heap.size w w' := by
  have HT : Hid (TabW w) := ht
  have HM : Hid (MaxW w) := hm
  clear ht hm
  have hcv := Lib.run_convert_bytes_const (P := Tryz.prog) w 22 5 #[.int .u8 40, .int .u8 112, .int .u8 32, .int .u8 40, .int .u8 97, .int .u8 32, .int .u8 63, .int .u8 120, .int .u8 41, .int .u8 32, .int .u8 40, .int .u8 98, .int .u8 32, .int .u8 126, .int .u8 53, .int .u8 41, .int .u8 41] 17 17 Tryz.underlying22 Tryz.underlying5
  simp only [List.size_toArray, List.length_cons, List.length_nil, Nat.zero_add, Nat.reduceAdd] at hcv
  go_enter Tryz.func7, Tryz.ntmps7
  go_wp2_with fail
  refine (read_ok9 _ 17 17 kpA [kpN] 0 _ rfl (Bs_mark w kpA _ _ _ rfl).isB (by omega) (by omega) (HM.out.next (alloc_below _ _)) read_kp).mono ?_
  rintro e w1 ⟨⟨ao, cap, rfl, hc, hN⟩, hb1⟩
  have HB1 : Hid (Below w.heap.size w w1) := next_trans (alloc_below _ _) hb1
  obtain ⟨b, o, a0, cap0, rfl, hA0⟩ := hN.at (j := 0) rfl
  have HPa : Hid (∀ w' lo lc, Below w1.heap.size w1 w' → IsTps w' lo T2 → Calls Tryz.prog 11 #[.agg #[.int .i64 (0), .int .i64 (0), .int .i64 (0), .string (⟨#[]⟩), .slice a0 3 cap0], .slice lo 2 lc] w' fun e w2 => (∃ ao cap, e = .returned (.tuple #[.agg #[.string (baL [112]), .slice ao 2 cap], .nilIface]) ∧ IsTss w2 ao kpL) ∧ Below w'.heap.size w' w2) := by
    intro w' lo lc hw ht
    exact (pparse_any T2 2 lo lc kpN a0 cap0 w' rfl (by omega) T2_len ht (by have := cnt_kpN; omega) hA0.hc (hA0.kids.next hw)).mono (fun e w2 h => par_rd h)
  have HC1 : Hid (∀ w', Below w1.heap.size w1 w' → w'.cell? ⟨b, o, none⟩ = some (.int .i64 0) ∧ w'.cell? ⟨b, o + 1, none⟩ = some (.int .i64 0) ∧ w'.cell? ⟨b, o + 2, none⟩ = some (.int .i64 0) ∧ w'.cell? ⟨b, o + 3, none⟩ = some (.string ⟨#[]⟩) ∧ w'.cell? ⟨b, o + 4, none⟩ = some (.slice a0 3 cap0)) := fun w' hw => ⟨keep_cell hw hA0.c0, keep_cell hw hA0.c1, keep_cell hw hA0.c2, keep_cell hw hA0.c3, keep_cell hw hA0.c4⟩
  simp only [List.length_cons, List.length_nil, Nat.zero_add] at hc ⊢
  clear hb1 hcv hN hA0
  go_wp2_with fail
  refine (two_any w1).mono ?_
  rintro e w2 ⟨⟨lo2, lc2, rfl, hl2⟩, hb2⟩
  go_wp2_with fail
  refine (alltp_any T2 2 lo2 lc2 w2 rfl (by omega) T2_len hl2).mono ?_
  rintro e w3 ⟨⟨lo, lc, rfl, hl3⟩, hb3⟩
  have hb23 : Below w1.heap.size w1 w3 := next_trans hb2 hb3
  obtain ⟨c0, c1, c2, c3, c4⟩ := HC1.out w3 hb23
  have HPc : Hid (Calls Tryz.prog 11 #[.agg #[.int .i64 (0), .int .i64 (0), .int .i64 (0), .string (⟨#[]⟩), .slice a0 3 cap0], .slice lo 2 lc] w3 fun e w2 => (∃ ao cap, e = .returned (.tuple #[.agg #[.string (baL [112]), .slice ao 2 cap], .nilIface]) ∧ IsTss w2 ao kpL) ∧ Below w3.heap.size w3 w2) := HPa.out w3 lo lc hb23 hl3
  have HL3 : Hid (IsTps w3 lo T2) := hl3
  have HB3 : Hid (Below w.heap.size w w3) := next_trans HB1.out hb23
  clear hb2 hb3 hb23 hl2 hl3 HPa HC1 HB1 hc
  go_wp2_with fail
  refine HPc.out.mono ?_
  rintro e w4 ⟨⟨po, pc, rfl, hp4⟩, hb4⟩
  have HB4 : Hid (Below w.heap.size w w4) := next_trans HB3.out hb4
  obtain ⟨TB, HTB⟩ : ∃ TB, Hid (w4.heap.size = TB) := ⟨_, rfl⟩
  obtain ⟨W5, HW5⟩ : ∃ W5, Hid (w4.alloc (.cells #[.string (baL [112]), .slice po 2 pc] 36) = W5) := ⟨_, rfl⟩
  have HX5 : Hid (Bx W5 TB #[.string (baL [112]), .slice po 2 pc]) := Bx.made' HW5.out HTB.out
  have HB5 : Hid (Below w.heap.size w W5) := by rw [← HW5.out]; exact next_trans HB4.out (alloc_below _ _)
  have HP5 : Hid (IsTss W5 po kpL) := by rw [← HW5.out]; exact hp4.next (alloc_below _ _)
  have HL5 : Hid (IsTps W5 lo T2) := by rw [← HW5.out]; exact HL3.out.next (next_trans hb4 (alloc_below _ _))
  clear c0 c1 c2 c3 c4 hb4 hp4 HPc HB3 HL3
  have HMa1 : Hid (∀ W fo fc, Below W5.heap.size W5 W → IsVals W fo [vI 1, vI 2] → Calls Tryz.prog 29 #[.agg #[.string (baL [112]), .slice po 2 pc], .agg #[.int .i64 1, .string (baL [112]), .slice fo 2 fc], .slice none 0 0] W fun e w' => (∃ ro rc, e = .returned (.tuple #[.slice ro 1 rc, .bool true]) ∧ IsSls w' ro [⟨baL [120], 1, 1, noS⟩]) ∧ Below W.heap.size W w') := by
    intro W fo fc hB hv
    have := match_any kpP po pc ⟨1, baL [112], [vI 1, vI 2]⟩ fo fc [] none 0 W (by decide) (HP5.out.next hB) (by simp) hv (by simp) (IsSls.nil _ _) (fun _ => ⟨rfl, rfl⟩)
    rw [mat_kp] at this
    exact this
  have HMa2 : Hid (∀ W fo fc, Below W5.heap.size W5 W → IsVals W fo [vI 1, vI 5] → Calls Tryz.prog 29 #[.agg #[.string (baL [112]), .slice po 2 pc], .agg #[.int .i64 1, .string (baL [112]), .slice fo 2 fc], .slice none 0 0] W fun e w' => e = .returned (.tuple #[.slice none 0 0, .bool false]) ∧ Below W.heap.size W w') := by
    intro W fo fc hB hv
    have := match_any kpP po pc ⟨1, baL [112], [vI 1, vI 5]⟩ fo fc [] none 0 W (by decide) (HP5.out.next hB) (by simp) hv (by simp) (IsSls.nil _ _) (fun _ => ⟨rfl, rfl⟩)
    rw [mat_kp5] at this
    exact this
  obtain ⟨Z, HZ⟩ : ∃ Z, Hid (baL (txtN kpM) = Z) := ⟨_, rfl⟩
  have hZ : (Z.toList == [40, 112, 32, 40, 97, 32, 63, 120, 41, 32, 40, 98, 32, 126, 53, 41, 41]) = true := s_eq HZ txt_kp
  have HNo : Hid (∀ W, Below W5.heap.size W5 W → Calls Tryz.prog 17 #[.agg #[.string (baL [112]), .slice po 2 pc], .slice lo 2 lc] W fun e w' => (∃ A0 c0, e = .returned (.agg #[.int .i64 (0), .int .i64 (0), .int .i64 (0), .string (⟨#[]⟩), .slice A0 3 c0]) ∧ Calls Tryz.prog 37 #[.agg #[.int .i64 (0), .int .i64 (0), .int .i64 (0), .string (⟨#[]⟩), .slice A0 3 c0]] w' fun e w3 => e = .returned (.string Z) ∧ Below w'.heap.size w' w3) ∧ Below W.heap.size W w') := by
    intro W hB
    refine (pnode_any T2 2 lo lc kpP po pc 0 W rfl (by omega) T2_len (HL5.out.next hB) plT_p (by decide) (HP5.out.next hB) (by decide)).mono ?_
    rintro e w' ⟨⟨c, rfl, hc⟩, hb⟩
    rw [slots_p, nd_kp] at hc
    obtain ⟨h1, h2, h3⟩ := nodeV_of hc
    refine ⟨⟨c.ao, c.cap, by rw [h1]; rfl, ?_⟩, hb⟩
    rw [← HZ.out]
    exact text_any5 kpM c.ao c.cap w' wf_kp (tab_next HT.out (next_trans (next_trans HB5.out hB) hb)) (by have := cnt_kp; omega) (by rw [txt_kp]; decide) h2 h3
  have HVa : Hid (∀ W, Below W5.heap.size W5 W → Calls Tryz.prog 23 #[.agg #[.string (baL [112]), .slice po 2 pc]] W fun e w' => (∃ ro rc, e = .returned (.slice ro 1 rc)) ∧ Below W.heap.size W w') := by
    intro W hB
    refine (vars_any kpP po pc W (by decide) (HP5.out.next hB)).mono ?_
    rintro e w' ⟨⟨ro, rc, h1, _⟩, hb⟩
    rw [vars_kp] at h1
    exact ⟨⟨ro, rc, h1⟩, hb⟩
  have HAl : Hid (∀ W fo fc, Below W5.heap.size W5 W → IsVals W fo [vI 1, vI 2] → Calls Tryz.prog 33 #[.agg #[.string (baL [112]), .slice po 2 pc], .agg #[.int .i64 0, .string (baL [112]), .slice fo 2 fc]] W fun e w' => e = .returned (.bool true) ∧ Below W.heap.size W w') := by
    intro W fo fc hB hv
    have := alone_any kpP po pc ⟨0, baL [112], [vI 1, vI 2]⟩ fo fc W (by decide) (HP5.out.next hB) (by simp) hv
    rw [alon_kp] at this
    exact this
  have HSm : Hid (∀ W, Below W5.heap.size W5 W → Calls Tryz.prog 18 #[.agg #[.string (baL [112]), .slice po 2 pc], .agg #[.string (baL [112]), .slice po 2 pc]] W fun e w' => e = .returned (.bool true) ∧ Below W.heap.size W w') := fun W hB => psame_any kpP po po pc pc W (by decide) (HP5.out.next hB) (HP5.out.next hB)
  have t0 : W5.cell? ⟨TB, 0, none⟩ = some (.string (baL [112])) := HX5.out.cell 0
  have t1 : W5.cell? ⟨TB, 1, none⟩ = some (.slice po 2 pc) := HX5.out.cell 1
  go_wp2_with fail
  rw [HW5.out, HTB.out]
  clear HW5 HTB HZ
  refine wp_region_held_drew (S := (fun w' => w'.cell? ⟨TB, 0, none⟩ = some (.string (baL [112])) ∧ w'.cell? ⟨TB, 1, none⟩ = some (.slice po 2 pc) ∧ Below W5.heap.size W5 w' ∧ W5.heap.size ≤ w'.heap.size)) (by kernel_rfl) ?_ (fun hHeldF => ?_)
  · exact ⟨t0, t1, (Below.refl _ _).drew, (Below.refl W5.heap.size W5).drew.size⟩
  refine wpAnyH_take (i := 0) (oi := { dst := some 34, op := Op.load 36 (Operand.tmp 4), type := 36, pos := "law.go:38", after := #[], guard := none }) (v := ?_) rfl (by kernel_rfl) (by kernel_rfl) (by kernel_rfl) (fun _ _ _ h => h) (Or.inl ⟨by rfl, ?hyF0⟩) (by assumption) ?_
  case hyF0 => (intro w hSw; (try dsimp only at hSw); go_simp; try with_reducible rfl)
  (try simp only [Act.put, List.setIfInBounds_toArray, List.set_cons_zero, List.set_cons_succ])
  refine wpAnyH_ready (rs := [1]) (by kernel_rfl) (by simp) ?_
  refine AllReadyH.cons (o := { dst := some 35, op := Op.call { callee := Callee.value (Operand.func 35), args := #[Operand.const (Value.int IntKind.i64 1), Operand.const (Value.int IntKind.i64 2)], argTypes := #[2, 2] }, type := 64, pos := "law.go:38", after := #[], guard := none }) rfl (fun K hK => ?_) AllReadyH.nil
  go_simp
  refine (twov_any 1 2 _).mono ?_
  rintro e w6 ⟨⟨fo6, fc6, rfl, hv6⟩, hb⟩
  have HV6 : Hid (IsVals w6 fo6 [vI 1, vI 2]) := hv6
  clear hv6
  refine hK.out _ _ ?_ (fun hHeldFx => ?_)
  · obtain ⟨q0, q1, q2, q3⟩ := hHeldF
    exact ⟨keep_cell hb q0, keep_cell hb q1, below_next q2 hb q3, le_next q3 hb⟩
  clear hK K hb hHeldF
  (try simp only [Act.put, List.setIfInBounds_toArray, List.set_cons_zero, List.set_cons_succ])
  refine wpAnyH_take (i := 2) (oi := { dst := some 36, op := Op.build 66 #[(0, Operand.const (Value.int IntKind.i64 1)), (1, Operand.const (Value.string { data := #[112] })), (2, Operand.tmp 35)], type := 66, pos := "law.go:38", after := #[{ on := 1, ground := Ground.data }], guard := none }) (v := ?_) rfl (by kernel_rfl) (by kernel_rfl) (by kernel_rfl) (fun _ _ _ h => h) (Or.inl ⟨by rfl, ?hyF2⟩) (by assumption) ?_
  case hyF2 => (intro w hSw; (try dsimp only at hSw); go_simp; try with_reducible rfl)
  (try simp only [Act.put, List.setIfInBounds_toArray, List.set_cons_zero, List.set_cons_succ])
  refine wpAnyH_ready (rs := [3]) (by kernel_rfl) (by simp) ?_
  refine AllReadyH.cons (o := { dst := some 37, op := Op.call { callee := Callee.value (Operand.func 29), args := #[Operand.tmp 34, Operand.tmp 36, Operand.const (Value.slice none 0 0)], argTypes := #[36, 66, 67] }, type := 76, pos := "law.go:38", after := #[{ on := 0, ground := Ground.data }, { on := 2, ground := Ground.data }, { on := 1, ground := Ground.chain }], guard := none }) rfl (fun K hK => ?_) AllReadyH.nil
  go_simp
  refine (HMa1.out _ fo6 fc6 (hHeldFx.2.2.1) HV6.out).mono ?_
  rintro e w7 ⟨⟨ro, rc, rfl, hs7⟩, hb⟩
  obtain ⟨bb, oo, rfl, z0, -, z2, -⟩ := sl_one hs7
  simp only at z0 z2
  replace z0 : w7.cell? ⟨bb, oo, none⟩ = some (.string ⟨#[120]⟩) := z0
  clear hs7 HV6
  refine hK.out _ _ ?_ (fun hHeldFxx => ?_)
  · obtain ⟨q0, q1, q2, q3⟩ := hHeldFx
    exact ⟨keep_cell hb q0, keep_cell hb q1, below_next q2 hb q3, le_next q3 hb⟩
  clear hK K hb hHeldFx
  (try simp only [Act.put, List.setIfInBounds_toArray, List.set_cons_zero, List.set_cons_succ])
  refine wpAnyH_take (i := 4) (oi := { dst := some 33, op := Op.move (Operand.tmp 37), type := 76, pos := "law.go:38", after := #[{ on := 3, ground := Ground.data }], guard := none }) (v := ?_) rfl (by kernel_rfl) (by kernel_rfl) (by kernel_rfl) (fun _ _ _ h => h) (Or.inl ⟨by rfl, ?hyF4⟩) (by assumption) ?_
  case hyF4 => (intro w hSw; (try dsimp only at hSw); go_simp; try with_reducible rfl)
  (try simp only [Act.put, List.setIfInBounds_toArray, List.set_cons_zero, List.set_cons_succ])
  refine wpAnyH_take (i := 5) (oi := { dst := some 38, op := Op.extract (Operand.tmp 33) 0, type := 67, pos := "law.go:38", after := #[{ on := 4, ground := Ground.data }], guard := none }) (v := ?_) rfl (by kernel_rfl) (by kernel_rfl) (by kernel_rfl) (fun _ _ _ h => h) (Or.inl ⟨by rfl, ?hyF5⟩) (by assumption) ?_
  case hyF5 => (intro w hSw; (try dsimp only at hSw); go_simp; try with_reducible rfl)
  (try simp only [Act.put, List.setIfInBounds_toArray, List.set_cons_zero, List.set_cons_succ])
  refine wpAnyH_take (i := 6) (oi := { dst := some 39, op := Op.extract (Operand.tmp 33) 1, type := 4, pos := "law.go:38", after := #[{ on := 4, ground := Ground.data }, { on := 7, ground := Ground.gcOnly Departure.lateStores }], guard := none }) (v := ?_) rfl (by kernel_rfl) (by kernel_rfl) (by kernel_rfl) (fun _ _ _ h => h) (Or.inl ⟨by rfl, ?hyF6⟩) (by assumption) ?_
  case hyF6 => (intro w hSw; (try dsimp only at hSw); go_simp; try with_reducible rfl)
  (try simp only [Act.put, List.setIfInBounds_toArray, List.set_cons_zero, List.set_cons_succ])
  refine wpAnyH_take (i := 7) (oi := { dst := some 6, op := Op.assign (Operand.tmp 38), type := 67, pos := "law.go:38", after := #[{ on := 5, ground := Ground.data }, { on := 3, ground := Ground.chain }, { on := 0, ground := Ground.phase }, { on := 1, ground := Ground.phase }, { on := 2, ground := Ground.phase }, { on := 3, ground := Ground.phase }, { on := 4, ground := Ground.phase }, { on := 5, ground := Ground.phase }, { on := 6, ground := Ground.textOnly Departure.lateStores }], guard := none }) (v := ?_) rfl (by kernel_rfl) (by kernel_rfl) (by kernel_rfl) (fun _ _ _ h => h) (Or.inl ⟨by rfl, ?hyF7⟩) (by assumption) ?_
  case hyF7 => (intro w hSw; (try dsimp only at hSw); go_simp; try with_reducible rfl)
  (try simp only [Act.put, List.setIfInBounds_toArray, List.set_cons_zero, List.set_cons_succ])
  refine wpAnyH_take (i := 8) (oi := { dst := some 7, op := Op.assign (Operand.tmp 39), type := 4, pos := "law.go:38", after := #[{ on := 6, ground := Ground.data }, { on := 7, ground := Ground.chain }, { on := 0, ground := Ground.phase }, { on := 1, ground := Ground.phase }, { on := 2, ground := Ground.phase }, { on := 3, ground := Ground.phase }, { on := 4, ground := Ground.phase }, { on := 5, ground := Ground.phase }, { on := 6, ground := Ground.phase }, { on := 7, ground := Ground.phase }], guard := none }) (v := ?_) rfl (by kernel_rfl) (by kernel_rfl) (by kernel_rfl) (fun _ _ _ h => h) (Or.inl ⟨by rfl, ?hyF8⟩) (by assumption) ?_
  case hyF8 => (intro w hSw; (try dsimp only at hSw); go_simp; try with_reducible rfl)
  (try simp only [Act.put, List.setIfInBounds_toArray, List.set_cons_zero, List.set_cons_succ])
  refine wpAnyH_done (by kernel_rfl) ?_ _
  clear t0 t1
  obtain ⟨t0, t1, hB7, hl7⟩ := hHeldFxx
  go_wp2_with fail
  refine wp_region_held_drew (S := (fun w' => w'.cell? ⟨TB, 0, none⟩ = some (.string (baL [112])) ∧ w'.cell? ⟨TB, 1, none⟩ = some (.slice po 2 pc) ∧ w'.cell? ⟨bb, oo, none⟩ = some (.string ⟨#[120]⟩) ∧ w'.cell? ⟨bb, oo + 2, none⟩ = some (.int .i64 1) ∧ Below W5.heap.size W5 w' ∧ W5.heap.size ≤ w'.heap.size)) (by kernel_rfl) ?_ (fun hHeldG => ?_)
  · exact ⟨t0, t1, z0, z2, hB7.drew, hB7.drew.size⟩
  refine wpAnyH_take (i := 0) (oi := { dst := some 41, op := Op.load 36 (Operand.tmp 4), type := 36, pos := "law.go:39", after := #[], guard := none }) (v := ?_) rfl (by kernel_rfl) (by kernel_rfl) (by kernel_rfl) (fun _ _ _ h => h) (Or.inl ⟨by rfl, ?hyG0⟩) (by assumption) ?_
  case hyG0 => (intro w hSw; (try dsimp only at hSw); go_simp; try with_reducible rfl)
  (try simp only [Act.put, List.setIfInBounds_toArray, List.set_cons_zero, List.set_cons_succ])
  refine wpAnyH_ready (rs := [1]) (by kernel_rfl) (by simp) ?_
  refine AllReadyH.cons (o := { dst := some 42, op := Op.call { callee := Callee.value (Operand.func 35), args := #[Operand.const (Value.int IntKind.i64 1), Operand.const (Value.int IntKind.i64 5)], argTypes := #[2, 2] }, type := 64, pos := "law.go:39", after := #[], guard := none }) rfl (fun K hK => ?_) AllReadyH.nil
  go_simp
  refine (twov_any 1 5 _).mono ?_
  rintro e w8 ⟨⟨fo8, fc8, rfl, hv8⟩, hb⟩
  have HV8 : Hid (IsVals w8 fo8 [vI 1, vI 5]) := hv8
  clear hv8
  refine hK.out _ _ ?_ (fun hHeldGx => ?_)
  · obtain ⟨q0, q1, q2, q3, q4, q5⟩ := hHeldG
    exact ⟨keep_cell hb q0, keep_cell hb q1, keep_cell hb q2, keep_cell hb q3, below_next q4 hb q5, le_next q5 hb⟩
  clear hK K hb hHeldG
  (try simp only [Act.put, List.setIfInBounds_toArray, List.set_cons_zero, List.set_cons_succ])
  refine wpAnyH_take (i := 2) (oi := { dst := some 43, op := Op.build 66 #[(0, Operand.const (Value.int IntKind.i64 1)), (1, Operand.const (Value.string { data := #[112] })), (2, Operand.tmp 42)], type := 66, pos := "law.go:39", after := #[{ on := 1, ground := Ground.data }], guard := none }) (v := ?_) rfl (by kernel_rfl) (by kernel_rfl) (by kernel_rfl) (fun _ _ _ h => h) (Or.inl ⟨by rfl, ?hyG2⟩) (by assumption) ?_
  case hyG2 => (intro w hSw; (try dsimp only at hSw); go_simp; try with_reducible rfl)
  (try simp only [Act.put, List.setIfInBounds_toArray, List.set_cons_zero, List.set_cons_succ])
  refine wpAnyH_ready (rs := [3]) (by kernel_rfl) (by simp) ?_
  refine AllReadyH.cons (o := { dst := some 44, op := Op.call { callee := Callee.value (Operand.func 29), args := #[Operand.tmp 41, Operand.tmp 43, Operand.const (Value.slice none 0 0)], argTypes := #[36, 66, 67] }, type := 76, pos := "law.go:39", after := #[{ on := 0, ground := Ground.data }, { on := 2, ground := Ground.data }, { on := 1, ground := Ground.chain }], guard := none }) rfl (fun K hK => ?_) AllReadyH.nil
  go_simp
  refine (HMa2.out _ fo8 fc8 (hHeldGx.2.2.2.2.1) HV8.out).mono ?_
  rintro e w9 ⟨rfl, hb⟩
  clear HV8
  refine hK.out _ _ ?_ (fun hHeldGxx => ?_)
  · obtain ⟨q0, q1, q2, q3, q4, q5⟩ := hHeldGx
    exact ⟨keep_cell hb q0, keep_cell hb q1, keep_cell hb q2, keep_cell hb q3, below_next q4 hb q5, le_next q5 hb⟩
  clear hK K hb hHeldGx
  (try simp only [Act.put, List.setIfInBounds_toArray, List.set_cons_zero, List.set_cons_succ])
  refine wpAnyH_take (i := 4) (oi := { dst := some 40, op := Op.move (Operand.tmp 44), type := 76, pos := "law.go:39", after := #[{ on := 3, ground := Ground.data }], guard := none }) (v := ?_) rfl (by kernel_rfl) (by kernel_rfl) (by kernel_rfl) (fun _ _ _ h => h) (Or.inl ⟨by rfl, ?hyG4⟩) (by assumption) ?_
  case hyG4 => (intro w hSw; (try dsimp only at hSw); go_simp; try with_reducible rfl)
  (try simp only [Act.put, List.setIfInBounds_toArray, List.set_cons_zero, List.set_cons_succ])
  refine wpAnyH_take (i := 5) (oi := { dst := some 45, op := Op.extract (Operand.tmp 40) 0, type := 67, pos := "law.go:39", after := #[{ on := 4, ground := Ground.data }], guard := none }) (v := ?_) rfl (by kernel_rfl) (by kernel_rfl) (by kernel_rfl) (fun _ _ _ h => h) (Or.inl ⟨by rfl, ?hyG5⟩) (by assumption) ?_
  case hyG5 => (intro w hSw; (try dsimp only at hSw); go_simp; try with_reducible rfl)
  (try simp only [Act.put, List.setIfInBounds_toArray, List.set_cons_zero, List.set_cons_succ])
  refine wpAnyH_take (i := 6) (oi := { dst := some 46, op := Op.extract (Operand.tmp 40) 1, type := 4, pos := "law.go:39", after := #[{ on := 4, ground := Ground.data }, { on := 7, ground := Ground.gcOnly Departure.lateStores }], guard := none }) (v := ?_) rfl (by kernel_rfl) (by kernel_rfl) (by kernel_rfl) (fun _ _ _ h => h) (Or.inl ⟨by rfl, ?hyG6⟩) (by assumption) ?_
  case hyG6 => (intro w hSw; (try dsimp only at hSw); go_simp; try with_reducible rfl)
  (try simp only [Act.put, List.setIfInBounds_toArray, List.set_cons_zero, List.set_cons_succ])
  refine wpAnyH_take (i := 7) (oi := { dst := some 8, op := Op.assign (Operand.tmp 45), type := 67, pos := "law.go:39", after := #[{ on := 5, ground := Ground.data }, { on := 3, ground := Ground.chain }, { on := 0, ground := Ground.phase }, { on := 1, ground := Ground.phase }, { on := 2, ground := Ground.phase }, { on := 3, ground := Ground.phase }, { on := 4, ground := Ground.phase }, { on := 5, ground := Ground.phase }, { on := 6, ground := Ground.textOnly Departure.lateStores }], guard := none }) (v := ?_) rfl (by kernel_rfl) (by kernel_rfl) (by kernel_rfl) (fun _ _ _ h => h) (Or.inl ⟨by rfl, ?hyG7⟩) (by assumption) ?_
  case hyG7 => (intro w hSw; (try dsimp only at hSw); go_simp; try with_reducible rfl)
  (try simp only [Act.put, List.setIfInBounds_toArray, List.set_cons_zero, List.set_cons_succ])
  refine wpAnyH_take (i := 8) (oi := { dst := some 9, op := Op.assign (Operand.tmp 46), type := 4, pos := "law.go:39", after := #[{ on := 6, ground := Ground.data }, { on := 7, ground := Ground.chain }, { on := 0, ground := Ground.phase }, { on := 1, ground := Ground.phase }, { on := 2, ground := Ground.phase }, { on := 3, ground := Ground.phase }, { on := 4, ground := Ground.phase }, { on := 5, ground := Ground.phase }, { on := 6, ground := Ground.phase }, { on := 7, ground := Ground.phase }], guard := none }) (v := ?_) rfl (by kernel_rfl) (by kernel_rfl) (by kernel_rfl) (fun _ _ _ h => h) (Or.inl ⟨by rfl, ?hyG8⟩) (by assumption) ?_
  case hyG8 => (intro w hSw; (try dsimp only at hSw); go_simp; try with_reducible rfl)
  (try simp only [Act.put, List.setIfInBounds_toArray, List.set_cons_zero, List.set_cons_succ])
  refine wpAnyH_done (by kernel_rfl) ?_ _
  clear t0 t1 z0 z2 hB7 hl7 HMa1 HMa2
  obtain ⟨t0, t1, z0, z2, hB9, hl9⟩ := hHeldGxx
  go_wp2_with fail
  refine wp_region_held_drew (S := (fun w' => w'.cell? ⟨TB, 0, none⟩ = some (.string (baL [112])) ∧ w'.cell? ⟨TB, 1, none⟩ = some (.slice po 2 pc) ∧ w'.cell? ⟨bb, oo, none⟩ = some (.string ⟨#[120]⟩) ∧ w'.cell? ⟨bb, oo + 2, none⟩ = some (.int .i64 1) ∧ Below W5.heap.size W5 w' ∧ W5.heap.size ≤ w'.heap.size)) (by kernel_rfl) ?_ (fun hHeldH => ?_)
  · exact ⟨t0, t1, z0, z2, hB9.drew, hB9.drew.size⟩
  refine wpAnyH_take (i := 0) (oi := { dst := some 47, op := Op.move (Operand.tmp 5), type := 38, pos := "law.go:40", after := #[], guard := none }) (v := ?_) rfl (by kernel_rfl) (by kernel_rfl) (by kernel_rfl) (fun _ _ _ h => h) (Or.inl ⟨by rfl, ?hyH0⟩) (by assumption) ?_
  case hyH0 => (intro w hSw; (try dsimp only at hSw); go_simp; try with_reducible rfl)
  (try simp only [Act.put, List.setIfInBounds_toArray, List.set_cons_zero, List.set_cons_succ])
  refine wpAnyH_take (i := 1) (oi := { dst := some 48, op := Op.binOp BinOp.eql 38 (Operand.tmp 47) (Operand.const Value.nilIface) 38, type := 4, pos := "law.go:40", after := #[{ on := 0, ground := Ground.data }], guard := none }) (v := ?_) rfl (by kernel_rfl) (by kernel_rfl) (by kernel_rfl) (fun _ _ _ h => h) (Or.inl ⟨by rfl, ?hyH1⟩) (by assumption) ?_
  case hyH1 => (intro w hSw; (try dsimp only at hSw); go_simp; try with_reducible rfl)
  (try simp only [Act.put, List.setIfInBounds_toArray, List.set_cons_zero, List.set_cons_succ])
  refine wpAnyH_take (i := 2) (oi := { dst := some 49, op := Op.move (Operand.tmp 48), type := 4, pos := "law.go:40", after := #[{ on := 1, ground := Ground.data }], guard := none }) (v := ?_) rfl (by kernel_rfl) (by kernel_rfl) (by kernel_rfl) (fun _ _ _ h => h) (Or.inl ⟨by rfl, ?hyH2⟩) (by assumption) ?_
  case hyH2 => (intro w hSw; (try dsimp only at hSw); go_simp; try with_reducible rfl)
  (try simp only [Act.put, List.setIfInBounds_toArray, List.set_cons_zero, List.set_cons_succ])
  refine wpAnyH_take (i := 3) (oi := { dst := some 50, op := Op.move (Operand.tmp 7), type := 4, pos := "law.go:40", after := #[{ on := 2, ground := Ground.guard }], guard := some (2, true) }) (v := ?_) rfl (by kernel_rfl) (by kernel_rfl) (by kernel_rfl) (fun _ _ _ h => h) (Or.inl ⟨by rfl, ?hyH3⟩) (by assumption) ?_
  case hyH3 => (intro w hSw; (try dsimp only at hSw); go_simp; try with_reducible rfl)
  (try simp only [Act.put, List.setIfInBounds_toArray, List.set_cons_zero, List.set_cons_succ])
  refine wpAnyH_take (i := 4) (oi := { dst := some 51, op := Op.pick (Operand.tmp 49) (Operand.tmp 50) (Operand.const (Value.bool false)), type := 4, pos := "law.go:40", after := #[{ on := 2, ground := Ground.data }, { on := 3, ground := Ground.data }], guard := none }) (v := ?_) rfl (by kernel_rfl) (by kernel_rfl) (by kernel_rfl) (fun _ _ _ h => h) (Or.inl ⟨by rfl, ?hyH4⟩) (by assumption) ?_
  case hyH4 => (intro w hSw; (try dsimp only at hSw); go_simp; try with_reducible rfl)
  (try simp only [Act.put, List.setIfInBounds_toArray, List.set_cons_zero, List.set_cons_succ])
  refine wpAnyH_take (i := 5) (oi := { dst := some 52, op := Op.move (Operand.tmp 51), type := 4, pos := "law.go:40", after := #[{ on := 4, ground := Ground.data }, { on := 2, ground := Ground.chain }], guard := none }) (v := ?_) rfl (by kernel_rfl) (by kernel_rfl) (by kernel_rfl) (fun _ _ _ h => h) (Or.inl ⟨by rfl, ?hyH5⟩) (by assumption) ?_
  case hyH5 => (intro w hSw; (try dsimp only at hSw); go_simp; try with_reducible rfl)
  (try simp only [Act.put, List.setIfInBounds_toArray, List.set_cons_zero, List.set_cons_succ])
  refine wpAnyH_take (i := 6) (oi := { dst := some 53, op := Op.move (Operand.tmp 9), type := 4, pos := "law.go:40", after := #[{ on := 5, ground := Ground.guard }], guard := some (5, true) }) (v := ?_) rfl (by kernel_rfl) (by kernel_rfl) (by kernel_rfl) (fun _ _ _ h => h) (Or.inl ⟨by rfl, ?hyH6⟩) (by assumption) ?_
  case hyH6 => (intro w hSw; (try dsimp only at hSw); go_simp; try with_reducible rfl)
  (try simp only [Act.put, List.setIfInBounds_toArray, List.set_cons_zero, List.set_cons_succ])
  refine wpAnyH_take (i := 7) (oi := { dst := some 54, op := Op.unOp UnOp.not 4 (Operand.tmp 53), type := 4, pos := "law.go:40", after := #[{ on := 6, ground := Ground.data }, { on := 5, ground := Ground.guard }], guard := some (5, true) }) (v := ?_) rfl (by kernel_rfl) (by kernel_rfl) (by kernel_rfl) (fun _ _ _ h => h) (Or.inl ⟨by rfl, ?hyH7⟩) (by assumption) ?_
  case hyH7 => (intro w hSw; (try dsimp only at hSw); go_simp; try with_reducible rfl)
  (try simp only [Act.put, List.setIfInBounds_toArray, List.set_cons_zero, List.set_cons_succ])
  refine wpAnyH_take (i := 8) (oi := { dst := some 55, op := Op.pick (Operand.tmp 52) (Operand.tmp 54) (Operand.const (Value.bool false)), type := 4, pos := "law.go:40", after := #[{ on := 5, ground := Ground.data }, { on := 7, ground := Ground.data }], guard := none }) (v := ?_) rfl (by kernel_rfl) (by kernel_rfl) (by kernel_rfl) (fun _ _ _ h => h) (Or.inl ⟨by rfl, ?hyH8⟩) (by assumption) ?_
  case hyH8 => (intro w hSw; (try dsimp only at hSw); go_simp; try with_reducible rfl)
  (try simp only [Act.put, List.setIfInBounds_toArray, List.set_cons_zero, List.set_cons_succ])
  refine wpAnyH_take (i := 9) (oi := { dst := some 56, op := Op.move (Operand.tmp 55), type := 4, pos := "law.go:40", after := #[{ on := 8, ground := Ground.data }, { on := 5, ground := Ground.chain }], guard := none }) (v := ?_) rfl (by kernel_rfl) (by kernel_rfl) (by kernel_rfl) (fun _ _ _ h => h) (Or.inl ⟨by rfl, ?hyH9⟩) (by assumption) ?_
  case hyH9 => (intro w hSw; (try dsimp only at hSw); go_simp; try with_reducible rfl)
  (try simp only [Act.put, List.setIfInBounds_toArray, List.set_cons_zero, List.set_cons_succ])
  refine wpAnyH_take (i := 10) (oi := { dst := some 57, op := Op.move (Operand.tmp 6), type := 67, pos := "law.go:40", after := #[{ on := 9, ground := Ground.guard }], guard := some (9, true) }) (v := ?_) rfl (by kernel_rfl) (by kernel_rfl) (by kernel_rfl) (fun _ _ _ h => h) (Or.inl ⟨by rfl, ?hyH10⟩) (by assumption) ?_
  case hyH10 => (intro w hSw; (try dsimp only at hSw); go_simp; try with_reducible rfl)
  (try simp only [Act.put, List.setIfInBounds_toArray, List.set_cons_zero, List.set_cons_succ])
  refine wpAnyH_take (i := 11) (oi := { dst := some 58, op := Op.call { callee := Callee.builtin Builtin.len, args := #[Operand.tmp 57], argTypes := #[67] }, type := 3, pos := "law.go:40", after := #[{ on := 10, ground := Ground.data }, { on := 9, ground := Ground.guard }], guard := some (9, true) }) (v := ?_) rfl (by kernel_rfl) (by kernel_rfl) (by kernel_rfl) (fun _ _ _ h => h) (Or.inl ⟨by rfl, ?hyH11⟩) (by assumption) ?_
  case hyH11 => (intro w hSw; (try dsimp only at hSw); go_simp; try with_reducible rfl)
  (try simp only [Act.put, List.setIfInBounds_toArray, List.set_cons_zero, List.set_cons_succ])
  refine wpAnyH_take (i := 12) (oi := { dst := some 59, op := Op.binOp BinOp.eql 3 (Operand.tmp 58) (Operand.const (Value.int IntKind.i64 1)) 3, type := 4, pos := "law.go:40", after := #[{ on := 11, ground := Ground.data }, { on := 9, ground := Ground.guard }], guard := some (9, true) }) (v := ?_) rfl (by kernel_rfl) (by kernel_rfl) (by kernel_rfl) (fun _ _ _ h => h) (Or.inl ⟨by rfl, ?hyH12⟩) (by assumption) ?_
  case hyH12 => (intro w hSw; (try dsimp only at hSw); go_simp; try with_reducible rfl)
  (try simp only [Act.put, List.setIfInBounds_toArray, List.set_cons_zero, List.set_cons_succ])
  refine wpAnyH_take (i := 13) (oi := { dst := some 60, op := Op.pick (Operand.tmp 56) (Operand.tmp 59) (Operand.const (Value.bool false)), type := 4, pos := "law.go:40", after := #[{ on := 9, ground := Ground.data }, { on := 12, ground := Ground.data }], guard := none }) (v := ?_) rfl (by kernel_rfl) (by kernel_rfl) (by kernel_rfl) (fun _ _ _ h => h) (Or.inl ⟨by rfl, ?hyH13⟩) (by assumption) ?_
  case hyH13 => (intro w hSw; (try dsimp only at hSw); go_simp; try with_reducible rfl)
  (try simp only [Act.put, List.setIfInBounds_toArray, List.set_cons_zero, List.set_cons_succ])
  refine wpAnyH_take (i := 14) (oi := { dst := some 61, op := Op.move (Operand.tmp 60), type := 4, pos := "law.go:40", after := #[{ on := 13, ground := Ground.data }, { on := 9, ground := Ground.chain }], guard := none }) (v := ?_) rfl (by kernel_rfl) (by kernel_rfl) (by kernel_rfl) (fun _ _ _ h => h) (Or.inl ⟨by rfl, ?hyH14⟩) (by assumption) ?_
  case hyH14 => (intro w hSw; (try dsimp only at hSw); go_simp; try with_reducible rfl)
  (try simp only [Act.put, List.setIfInBounds_toArray, List.set_cons_zero, List.set_cons_succ])
  refine wpAnyH_take (i := 15) (oi := { dst := some 62, op := Op.move (Operand.tmp 6), type := 67, pos := "law.go:40", after := #[{ on := 14, ground := Ground.guard }], guard := some (14, true) }) (v := ?_) rfl (by kernel_rfl) (by kernel_rfl) (by kernel_rfl) (fun _ _ _ h => h) (Or.inl ⟨by rfl, ?hyH15⟩) (by assumption) ?_
  case hyH15 => (intro w hSw; (try dsimp only at hSw); go_simp; try with_reducible rfl)
  (try simp only [Act.put, List.setIfInBounds_toArray, List.set_cons_zero, List.set_cons_succ])
  refine wpAnyH_take (i := 16) (oi := { dst := some 63, op := Op.indexAddr 67 (Operand.tmp 62) (Operand.const (Value.int IntKind.i64 0)), type := 0, pos := "law.go:40", after := #[{ on := 15, ground := Ground.data }, { on := 14, ground := Ground.guard }], guard := some (14, true) }) (v := ?_) rfl (by kernel_rfl) (by kernel_rfl) (by kernel_rfl) (fun _ _ _ h => h) (Or.inl ⟨by rfl, ?hyH16⟩) (by assumption) ?_
  case hyH16 => (intro w hSw; (try dsimp only at hSw); go_simp; try with_reducible rfl)
  (try simp only [Act.put, List.setIfInBounds_toArray, List.set_cons_zero, List.set_cons_succ])
  refine wpAnyH_take (i := 17) (oi := { dst := some 64, op := Op.fieldAddr 91 (Operand.tmp 63) 0, type := 0, pos := "law.go:40", after := #[{ on := 16, ground := Ground.data }, { on := 14, ground := Ground.guard }], guard := some (14, true) }) (v := ?_) rfl (by kernel_rfl) (by kernel_rfl) (by kernel_rfl) (fun _ _ _ h => h) (Or.inl ⟨by rfl, ?hyH17⟩) (by assumption) ?_
  case hyH17 => (intro w hSw; (try dsimp only at hSw); go_simp; try with_reducible rfl)
  (try simp only [Act.put, List.setIfInBounds_toArray, List.set_cons_zero, List.set_cons_succ])
  refine wpAnyH_take (i := 18) (oi := { dst := some 65, op := Op.load 9 (Operand.tmp 64), type := 9, pos := "law.go:40", after := #[{ on := 17, ground := Ground.data }, { on := 14, ground := Ground.guard }], guard := some (14, true) }) (v := ?_) rfl (by kernel_rfl) (by kernel_rfl) (by kernel_rfl) (fun _ _ _ h => h) (Or.inl ⟨by rfl, ?hyH18⟩) (by assumption) ?_
  case hyH18 => (intro w hSw; (try dsimp only at hSw); go_simp; try with_reducible rfl)
  (try simp only [Act.put, List.setIfInBounds_toArray, List.set_cons_zero, List.set_cons_succ])
  refine wpAnyH_take (i := 19) (oi := { dst := some 66, op := Op.binOp BinOp.eql 9 (Operand.tmp 65) (Operand.const (Value.string { data := #[120] })) 9, type := 4, pos := "law.go:40", after := #[{ on := 18, ground := Ground.data }, { on := 14, ground := Ground.guard }], guard := some (14, true) }) (v := ?_) rfl (by kernel_rfl) (by kernel_rfl) (by kernel_rfl) (fun _ _ _ h => h) (Or.inl ⟨by rfl, ?hyH19⟩) (by assumption) ?_
  case hyH19 => (intro w hSw; (try dsimp only at hSw); go_simp; try with_reducible rfl)
  (try simp only [Act.put, List.setIfInBounds_toArray, List.set_cons_zero, List.set_cons_succ])
  refine wpAnyH_take (i := 20) (oi := { dst := some 67, op := Op.pick (Operand.tmp 61) (Operand.tmp 66) (Operand.const (Value.bool false)), type := 4, pos := "law.go:40", after := #[{ on := 14, ground := Ground.data }, { on := 19, ground := Ground.data }], guard := none }) (v := ?_) rfl (by kernel_rfl) (by kernel_rfl) (by kernel_rfl) (fun _ _ _ h => h) (Or.inl ⟨by rfl, ?hyH20⟩) (by assumption) ?_
  case hyH20 => (intro w hSw; (try dsimp only at hSw); go_simp; try with_reducible rfl)
  (try simp only [Act.put, List.setIfInBounds_toArray, List.set_cons_zero, List.set_cons_succ])
  refine wpAnyH_take (i := 21) (oi := { dst := some 68, op := Op.move (Operand.tmp 67), type := 4, pos := "law.go:40", after := #[{ on := 20, ground := Ground.data }, { on := 14, ground := Ground.chain }], guard := none }) (v := ?_) rfl (by kernel_rfl) (by kernel_rfl) (by kernel_rfl) (fun _ _ _ h => h) (Or.inl ⟨by rfl, ?hyH21⟩) (by assumption) ?_
  case hyH21 => (intro w hSw; (try dsimp only at hSw); go_simp; try with_reducible rfl)
  (try simp only [Act.put, List.setIfInBounds_toArray, List.set_cons_zero, List.set_cons_succ])
  refine wpAnyH_take (i := 22) (oi := { dst := some 69, op := Op.move (Operand.tmp 6), type := 67, pos := "law.go:40", after := #[{ on := 21, ground := Ground.guard }], guard := some (21, true) }) (v := ?_) rfl (by kernel_rfl) (by kernel_rfl) (by kernel_rfl) (fun _ _ _ h => h) (Or.inl ⟨by rfl, ?hyH22⟩) (by assumption) ?_
  case hyH22 => (intro w hSw; (try dsimp only at hSw); go_simp; try with_reducible rfl)
  (try simp only [Act.put, List.setIfInBounds_toArray, List.set_cons_zero, List.set_cons_succ])
  refine wpAnyH_take (i := 23) (oi := { dst := some 70, op := Op.indexAddr 67 (Operand.tmp 69) (Operand.const (Value.int IntKind.i64 0)), type := 0, pos := "law.go:40", after := #[{ on := 22, ground := Ground.data }, { on := 21, ground := Ground.guard }], guard := some (21, true) }) (v := ?_) rfl (by kernel_rfl) (by kernel_rfl) (by kernel_rfl) (fun _ _ _ h => h) (Or.inl ⟨by rfl, ?hyH23⟩) (by assumption) ?_
  case hyH23 => (intro w hSw; (try dsimp only at hSw); go_simp; try with_reducible rfl)
  (try simp only [Act.put, List.setIfInBounds_toArray, List.set_cons_zero, List.set_cons_succ])
  refine wpAnyH_take (i := 24) (oi := { dst := some 71, op := Op.fieldAddr 91 (Operand.tmp 70) 1, type := 0, pos := "law.go:40", after := #[{ on := 23, ground := Ground.data }, { on := 21, ground := Ground.guard }], guard := some (21, true) }) (v := ?_) rfl (by kernel_rfl) (by kernel_rfl) (by kernel_rfl) (fun _ _ _ h => h) (Or.inl ⟨by rfl, ?hyH24⟩) (by assumption) ?_
  case hyH24 => (intro w hSw; (try dsimp only at hSw); go_simp; try with_reducible rfl)
  (try simp only [Act.put, List.setIfInBounds_toArray, List.set_cons_zero, List.set_cons_succ])
  refine wpAnyH_take (i := 25) (oi := { dst := some 72, op := Op.fieldAddr 71 (Operand.tmp 71) 1, type := 0, pos := "law.go:40", after := #[{ on := 24, ground := Ground.data }, { on := 21, ground := Ground.guard }], guard := some (21, true) }) (v := ?_) rfl (by kernel_rfl) (by kernel_rfl) (by kernel_rfl) (fun _ _ _ h => h) (Or.inl ⟨by rfl, ?hyH25⟩) (by assumption) ?_
  case hyH25 => (intro w hSw; (try dsimp only at hSw); go_simp; try with_reducible rfl)
  (try simp only [Act.put, List.setIfInBounds_toArray, List.set_cons_zero, List.set_cons_succ])
  refine wpAnyH_take (i := 26) (oi := { dst := some 73, op := Op.load 2 (Operand.tmp 72), type := 2, pos := "law.go:40", after := #[{ on := 25, ground := Ground.data }, { on := 21, ground := Ground.guard }], guard := some (21, true) }) (v := ?_) rfl (by kernel_rfl) (by kernel_rfl) (by kernel_rfl) (fun _ _ _ h => h) (Or.inl ⟨by rfl, ?hyH26⟩) (by assumption) ?_
  case hyH26 => (intro w hSw; (try dsimp only at hSw); go_simp; try with_reducible rfl)
  (try simp only [Act.put, List.setIfInBounds_toArray, List.set_cons_zero, List.set_cons_succ])
  refine wpAnyH_take (i := 27) (oi := { dst := some 74, op := Op.binOp BinOp.eql 2 (Operand.tmp 73) (Operand.const (Value.int IntKind.i64 1)) 2, type := 4, pos := "law.go:40", after := #[{ on := 26, ground := Ground.data }, { on := 21, ground := Ground.guard }], guard := some (21, true) }) (v := ?_) rfl (by kernel_rfl) (by kernel_rfl) (by kernel_rfl) (fun _ _ _ h => h) (Or.inl ⟨by rfl, ?hyH27⟩) (by assumption) ?_
  case hyH27 => (intro w hSw; (try dsimp only at hSw); go_simp; try with_reducible rfl)
  (try simp only [Act.put, List.setIfInBounds_toArray, List.set_cons_zero, List.set_cons_succ])
  refine wpAnyH_take (i := 28) (oi := { dst := some 75, op := Op.pick (Operand.tmp 68) (Operand.tmp 74) (Operand.const (Value.bool false)), type := 4, pos := "law.go:40", after := #[{ on := 21, ground := Ground.data }, { on := 27, ground := Ground.data }], guard := none }) (v := ?_) rfl (by kernel_rfl) (by kernel_rfl) (by kernel_rfl) (fun _ _ _ h => h) (Or.inl ⟨by rfl, ?hyH28⟩) (by assumption) ?_
  case hyH28 => (intro w hSw; (try dsimp only at hSw); go_simp; try with_reducible rfl)
  (try simp only [Act.put, List.setIfInBounds_toArray, List.set_cons_zero, List.set_cons_succ])
  refine wpAnyH_take (i := 29) (oi := { dst := some 76, op := Op.move (Operand.tmp 75), type := 4, pos := "law.go:40", after := #[{ on := 28, ground := Ground.data }, { on := 21, ground := Ground.chain }], guard := none }) (v := ?_) rfl (by kernel_rfl) (by kernel_rfl) (by kernel_rfl) (fun _ _ _ h => h) (Or.inl ⟨by rfl, ?hyH29⟩) (by assumption) ?_
  case hyH29 => (intro w hSw; (try dsimp only at hSw); go_simp; try with_reducible rfl)
  (try simp only [Act.put, List.setIfInBounds_toArray, List.set_cons_zero, List.set_cons_succ])
  refine wpAnyH_take (i := 30) (oi := { dst := some 77, op := Op.load 36 (Operand.tmp 4), type := 36, pos := "law.go:40", after := #[{ on := 29, ground := Ground.guard }], guard := some (29, true) }) (v := ?_) rfl (by kernel_rfl) (by kernel_rfl) (by kernel_rfl) (fun _ _ _ h => h) (Or.inl ⟨by rfl, ?hyH30⟩) (by assumption) ?_
  case hyH30 => (intro w hSw; (try dsimp only at hSw); go_simp; try with_reducible rfl)
  (try simp only [Act.put, List.setIfInBounds_toArray, List.set_cons_zero, List.set_cons_succ])
  refine wpAnyH_take (i := 31) (oi := { dst := some 78, op := Op.move (Operand.tmp 3), type := 30, pos := "law.go:40", after := #[{ on := 29, ground := Ground.guard }], guard := some (29, true) }) (v := ?_) rfl (by kernel_rfl) (by kernel_rfl) (by kernel_rfl) (fun _ _ _ h => h) (Or.inl ⟨by rfl, ?hyH31⟩) (by assumption) ?_
  case hyH31 => (intro w hSw; (try dsimp only at hSw); go_simp; try with_reducible rfl)
  (try simp only [Act.put, List.setIfInBounds_toArray, List.set_cons_zero, List.set_cons_succ])
  refine wpAnyH_ready (rs := [32]) (by kernel_rfl) (by simp) ?_
  refine AllReadyH.cons (o := { dst := some 79, op := Op.call { callee := Callee.value (Operand.func 17), args := #[Operand.tmp 77, Operand.tmp 78], argTypes := #[36, 30] }, type := 43, pos := "law.go:40", after := #[{ on := 30, ground := Ground.data }, { on := 31, ground := Ground.data }, { on := 29, ground := Ground.chain }, { on := 29, ground := Ground.guard }], guard := some (29, true) }) rfl (fun K hK => ?_) AllReadyH.nil
  go_simp
  refine (HNo.out _ (hHeldH.2.2.2.2.1)).mono ?_
  rintro e wa ⟨⟨A0, c0, rfl, hta⟩, hb⟩
  have HTa : Hid (Calls Tryz.prog 37 #[.agg #[.int .i64 (0), .int .i64 (0), .int .i64 (0), .string (⟨#[]⟩), .slice A0 3 c0]] wa fun e w3 => e = .returned (.string Z) ∧ Below wa.heap.size wa w3) := hta
  clear hta
  refine hK.out _ _ ?_ (fun hHeldHx => ?_)
  · obtain ⟨q0, q1, q2, q3, q4, q5⟩ := hHeldH
    exact ⟨keep_cell hb q0, keep_cell hb q1, keep_cell hb q2, keep_cell hb q3, below_next q4 hb q5, le_next q5 hb⟩
  clear hK K hb hHeldH
  (try simp only [Act.put, List.setIfInBounds_toArray, List.set_cons_zero, List.set_cons_succ])
  refine wpAnyH_ready (rs := [33]) (by kernel_rfl) (by simp) ?_
  refine AllReadyH.cons (o := { dst := some 80, op := Op.call { callee := Callee.value (Operand.func 37), args := #[Operand.tmp 79], argTypes := #[43] }, type := 9, pos := "law.go:40", after := #[{ on := 32, ground := Ground.data }, { on := 32, ground := Ground.chain }, { on := 29, ground := Ground.guard }], guard := some (29, true) }) rfl (fun K hK => ?_) AllReadyH.nil
  go_simp
  refine HTa.out.mono ?_
  rintro e wb ⟨rfl, hb⟩
  clear HTa
  refine hK.out _ _ ?_ (fun hHeldHxx => ?_)
  · obtain ⟨q0, q1, q2, q3, q4, q5⟩ := hHeldHx
    exact ⟨keep_cell hb q0, keep_cell hb q1, keep_cell hb q2, keep_cell hb q3, below_next q4 hb q5, le_next q5 hb⟩
  clear hK K hb hHeldHx
  (try simp only [Act.put, List.setIfInBounds_toArray, List.set_cons_zero, List.set_cons_succ])
  refine wpAnyH_take (i := 34) (oi := { dst := some 81, op := Op.binOp BinOp.eql 9 (Operand.tmp 80) (Operand.const (Value.string { data := #[40, 112, 32, 40, 97, 32, 63, 120, 41, 32, 40, 98, 32, 126, 53, 41, 41] })) 9, type := 4, pos := "law.go:40", after := #[{ on := 33, ground := Ground.data }, { on := 29, ground := Ground.guard }], guard := some (29, true) }) (v := ?_) rfl (by kernel_rfl) (by kernel_rfl) (by kernel_rfl) (fun _ _ _ h => h) (Or.inl ⟨by rfl, ?hyH34⟩) (by assumption) ?_
  case hyH34 => (intro w hSw; (try dsimp only at hSw); go_simp; try with_reducible rfl)
  (try simp only [Act.put, List.setIfInBounds_toArray, List.set_cons_zero, List.set_cons_succ])
  refine wpAnyH_take (i := 35) (oi := { dst := some 82, op := Op.pick (Operand.tmp 76) (Operand.tmp 81) (Operand.const (Value.bool false)), type := 4, pos := "law.go:40", after := #[{ on := 29, ground := Ground.data }, { on := 34, ground := Ground.data }], guard := none }) (v := ?_) rfl (by kernel_rfl) (by kernel_rfl) (by kernel_rfl) (fun _ _ _ h => h) (Or.inl ⟨by rfl, ?hyH35⟩) (by assumption) ?_
  case hyH35 => (intro w hSw; (try dsimp only at hSw); go_simp; try with_reducible rfl)
  (try simp only [Act.put, List.setIfInBounds_toArray, List.set_cons_zero, List.set_cons_succ])
  refine wpAnyH_take (i := 36) (oi := { dst := some 83, op := Op.move (Operand.tmp 82), type := 4, pos := "law.go:40", after := #[{ on := 35, ground := Ground.data }, { on := 33, ground := Ground.chain }], guard := none }) (v := ?_) rfl (by kernel_rfl) (by kernel_rfl) (by kernel_rfl) (fun _ _ _ h => h) (Or.inl ⟨by rfl, ?hyH36⟩) (by assumption) ?_
  case hyH36 => (intro w hSw; (try dsimp only at hSw); go_simp; try with_reducible rfl)
  (try simp only [Act.put, List.setIfInBounds_toArray, List.set_cons_zero, List.set_cons_succ])
  refine wpAnyH_take (i := 37) (oi := { dst := some 84, op := Op.load 36 (Operand.tmp 4), type := 36, pos := "law.go:40", after := #[{ on := 36, ground := Ground.guard }], guard := some (36, true) }) (v := ?_) rfl (by kernel_rfl) (by kernel_rfl) (by kernel_rfl) (fun _ _ _ h => h) (Or.inl ⟨by rfl, ?hyH37⟩) (by assumption) ?_
  case hyH37 => (intro w hSw; (try dsimp only at hSw); go_simp; try with_reducible rfl)
  (try simp only [Act.put, List.setIfInBounds_toArray, List.set_cons_zero, List.set_cons_succ])
  refine wpAnyH_ready (rs := [38]) (by kernel_rfl) (by simp) ?_
  refine AllReadyH.cons (o := { dst := some 85, op := Op.call { callee := Callee.value (Operand.func 23), args := #[Operand.tmp 84], argTypes := #[36] }, type := 61, pos := "law.go:40", after := #[{ on := 37, ground := Ground.data }, { on := 36, ground := Ground.chain }, { on := 36, ground := Ground.guard }], guard := some (36, true) }) rfl (fun K hK => ?_) AllReadyH.nil
  go_simp
  refine (HVa.out _ (hHeldHxx.2.2.2.2.1)).mono ?_
  rintro e wc ⟨⟨no, nc, rfl⟩, hb⟩
  refine hK.out _ _ ?_ (fun hHeldHxxx => ?_)
  · obtain ⟨q0, q1, q2, q3, q4, q5⟩ := hHeldHxx
    exact ⟨keep_cell hb q0, keep_cell hb q1, keep_cell hb q2, keep_cell hb q3, below_next q4 hb q5, le_next q5 hb⟩
  clear hK K hb hHeldHxx
  (try simp only [Act.put, List.setIfInBounds_toArray, List.set_cons_zero, List.set_cons_succ])
  refine wpAnyH_take (i := 39) (oi := { dst := some 86, op := Op.call { callee := Callee.builtin Builtin.len, args := #[Operand.tmp 85], argTypes := #[61] }, type := 3, pos := "law.go:40", after := #[{ on := 38, ground := Ground.data }, { on := 36, ground := Ground.guard }], guard := some (36, true) }) (v := ?_) rfl (by kernel_rfl) (by kernel_rfl) (by kernel_rfl) (fun _ _ _ h => h) (Or.inl ⟨by rfl, ?hyH39⟩) (by assumption) ?_
  case hyH39 => (intro w hSw; (try dsimp only at hSw); go_simp; try with_reducible rfl)
  (try simp only [Act.put, List.setIfInBounds_toArray, List.set_cons_zero, List.set_cons_succ])
  refine wpAnyH_take (i := 40) (oi := { dst := some 87, op := Op.binOp BinOp.eql 3 (Operand.tmp 86) (Operand.const (Value.int IntKind.i64 1)) 3, type := 4, pos := "law.go:40", after := #[{ on := 39, ground := Ground.data }, { on := 36, ground := Ground.guard }], guard := some (36, true) }) (v := ?_) rfl (by kernel_rfl) (by kernel_rfl) (by kernel_rfl) (fun _ _ _ h => h) (Or.inl ⟨by rfl, ?hyH40⟩) (by assumption) ?_
  case hyH40 => (intro w hSw; (try dsimp only at hSw); go_simp; try with_reducible rfl)
  (try simp only [Act.put, List.setIfInBounds_toArray, List.set_cons_zero, List.set_cons_succ])
  refine wpAnyH_take (i := 41) (oi := { dst := some 88, op := Op.pick (Operand.tmp 83) (Operand.tmp 87) (Operand.const (Value.bool false)), type := 4, pos := "law.go:40", after := #[{ on := 36, ground := Ground.data }, { on := 40, ground := Ground.data }], guard := none }) (v := ?_) rfl (by kernel_rfl) (by kernel_rfl) (by kernel_rfl) (fun _ _ _ h => h) (Or.inl ⟨by rfl, ?hyH41⟩) (by assumption) ?_
  case hyH41 => (intro w hSw; (try dsimp only at hSw); go_simp; try with_reducible rfl)
  (try simp only [Act.put, List.setIfInBounds_toArray, List.set_cons_zero, List.set_cons_succ])
  refine wpAnyH_take (i := 42) (oi := { dst := some 89, op := Op.move (Operand.tmp 88), type := 4, pos := "law.go:40", after := #[{ on := 41, ground := Ground.data }, { on := 38, ground := Ground.chain }], guard := none }) (v := ?_) rfl (by kernel_rfl) (by kernel_rfl) (by kernel_rfl) (fun _ _ _ h => h) (Or.inl ⟨by rfl, ?hyH42⟩) (by assumption) ?_
  case hyH42 => (intro w hSw; (try dsimp only at hSw); go_simp; try with_reducible rfl)
  (try simp only [Act.put, List.setIfInBounds_toArray, List.set_cons_zero, List.set_cons_succ])
  refine wpAnyH_take (i := 43) (oi := { dst := some 90, op := Op.load 36 (Operand.tmp 4), type := 36, pos := "law.go:40", after := #[{ on := 42, ground := Ground.guard }], guard := some (42, true) }) (v := ?_) rfl (by kernel_rfl) (by kernel_rfl) (by kernel_rfl) (fun _ _ _ h => h) (Or.inl ⟨by rfl, ?hyH43⟩) (by assumption) ?_
  case hyH43 => (intro w hSw; (try dsimp only at hSw); go_simp; try with_reducible rfl)
  (try simp only [Act.put, List.setIfInBounds_toArray, List.set_cons_zero, List.set_cons_succ])
  refine wpAnyH_ready (rs := [44]) (by kernel_rfl) (by simp) ?_
  refine AllReadyH.cons (o := { dst := some 91, op := Op.call { callee := Callee.value (Operand.func 35), args := #[Operand.const (Value.int IntKind.i64 1), Operand.const (Value.int IntKind.i64 2)], argTypes := #[2, 2] }, type := 64, pos := "law.go:40", after := #[{ on := 42, ground := Ground.chain }, { on := 42, ground := Ground.guard }], guard := some (42, true) }) rfl (fun K hK => ?_) AllReadyH.nil
  go_simp
  refine (twov_any 1 2 _).mono ?_
  rintro e wd ⟨⟨fod, fcd, rfl, hvd⟩, hb⟩
  have HVd : Hid (IsVals wd fod [vI 1, vI 2]) := hvd
  clear hvd
  refine hK.out _ _ ?_ (fun hHeldHxxxx => ?_)
  · obtain ⟨q0, q1, q2, q3, q4, q5⟩ := hHeldHxxx
    exact ⟨keep_cell hb q0, keep_cell hb q1, keep_cell hb q2, keep_cell hb q3, below_next q4 hb q5, le_next q5 hb⟩
  clear hK K hb hHeldHxxx
  (try simp only [Act.put, List.setIfInBounds_toArray, List.set_cons_zero, List.set_cons_succ])
  refine wpAnyH_take (i := 45) (oi := { dst := some 92, op := Op.build 66 #[(1, Operand.const (Value.string { data := #[112] })), (2, Operand.tmp 91)], type := 66, pos := "law.go:40", after := #[{ on := 44, ground := Ground.data }, { on := 42, ground := Ground.guard }], guard := some (42, true) }) (v := ?_) rfl (by kernel_rfl) (by kernel_rfl) (by kernel_rfl) (fun _ _ _ h => h) (Or.inl ⟨by rfl, ?hyH45⟩) (by assumption) ?_
  case hyH45 => (intro w hSw; (try dsimp only at hSw); go_simp; try with_reducible rfl)
  (try simp only [Act.put, List.setIfInBounds_toArray, List.set_cons_zero, List.set_cons_succ])
  refine wpAnyH_ready (rs := [46]) (by kernel_rfl) (by simp) ?_
  refine AllReadyH.cons (o := { dst := some 93, op := Op.call { callee := Callee.value (Operand.func 33), args := #[Operand.tmp 90, Operand.tmp 92], argTypes := #[36, 66] }, type := 4, pos := "law.go:40", after := #[{ on := 43, ground := Ground.data }, { on := 45, ground := Ground.data }, { on := 44, ground := Ground.chain }, { on := 42, ground := Ground.guard }], guard := some (42, true) }) rfl (fun K hK => ?_) AllReadyH.nil
  go_simp
  refine (HAl.out _ fod fcd (hHeldHxxxx.2.2.2.2.1) HVd.out).mono ?_
  rintro e we ⟨rfl, hb⟩
  refine hK.out _ _ ?_ (fun hHeldHxxxxx => ?_)
  · obtain ⟨q0, q1, q2, q3, q4, q5⟩ := hHeldHxxxx
    exact ⟨keep_cell hb q0, keep_cell hb q1, keep_cell hb q2, keep_cell hb q3, below_next q4 hb q5, le_next q5 hb⟩
  clear hK K hb hHeldHxxxx
  (try simp only [Act.put, List.setIfInBounds_toArray, List.set_cons_zero, List.set_cons_succ])
  refine wpAnyH_take (i := 47) (oi := { dst := some 94, op := Op.pick (Operand.tmp 89) (Operand.tmp 93) (Operand.const (Value.bool false)), type := 4, pos := "law.go:40", after := #[{ on := 42, ground := Ground.data }, { on := 46, ground := Ground.data }], guard := none }) (v := ?_) rfl (by kernel_rfl) (by kernel_rfl) (by kernel_rfl) (fun _ _ _ h => h) (Or.inl ⟨by rfl, ?hyH47⟩) (by assumption) ?_
  case hyH47 => (intro w hSw; (try dsimp only at hSw); go_simp; try with_reducible rfl)
  (try simp only [Act.put, List.setIfInBounds_toArray, List.set_cons_zero, List.set_cons_succ])
  refine wpAnyH_take (i := 48) (oi := { dst := some 95, op := Op.move (Operand.tmp 94), type := 4, pos := "law.go:40", after := #[{ on := 47, ground := Ground.data }, { on := 46, ground := Ground.chain }], guard := none }) (v := ?_) rfl (by kernel_rfl) (by kernel_rfl) (by kernel_rfl) (fun _ _ _ h => h) (Or.inl ⟨by rfl, ?hyH48⟩) (by assumption) ?_
  case hyH48 => (intro w hSw; (try dsimp only at hSw); go_simp; try with_reducible rfl)
  (try simp only [Act.put, List.setIfInBounds_toArray, List.set_cons_zero, List.set_cons_succ])
  refine wpAnyH_take (i := 49) (oi := { dst := some 96, op := Op.load 36 (Operand.tmp 4), type := 36, pos := "law.go:40", after := #[{ on := 48, ground := Ground.guard }], guard := some (48, true) }) (v := ?_) rfl (by kernel_rfl) (by kernel_rfl) (by kernel_rfl) (fun _ _ _ h => h) (Or.inl ⟨by rfl, ?hyH49⟩) (by assumption) ?_
  case hyH49 => (intro w hSw; (try dsimp only at hSw); go_simp; try with_reducible rfl)
  (try simp only [Act.put, List.setIfInBounds_toArray, List.set_cons_zero, List.set_cons_succ])
  refine wpAnyH_take (i := 50) (oi := { dst := some 97, op := Op.load 36 (Operand.tmp 4), type := 36, pos := "law.go:40", after := #[{ on := 48, ground := Ground.guard }], guard := some (48, true) }) (v := ?_) rfl (by kernel_rfl) (by kernel_rfl) (by kernel_rfl) (fun _ _ _ h => h) (Or.inl ⟨by rfl, ?hyH50⟩) (by assumption) ?_
  case hyH50 => (intro w hSw; (try dsimp only at hSw); go_simp; try with_reducible rfl)
  (try simp only [Act.put, List.setIfInBounds_toArray, List.set_cons_zero, List.set_cons_succ])
  refine wpAnyH_ready (rs := [51]) (by kernel_rfl) (by simp) ?_
  refine AllReadyH.cons (o := { dst := some 98, op := Op.call { callee := Callee.value (Operand.func 18), args := #[Operand.tmp 96, Operand.tmp 97], argTypes := #[36, 36] }, type := 4, pos := "law.go:40", after := #[{ on := 49, ground := Ground.data }, { on := 50, ground := Ground.data }, { on := 48, ground := Ground.chain }, { on := 48, ground := Ground.guard }], guard := some (48, true) }) rfl (fun K hK => ?_) AllReadyH.nil
  go_simp
  refine (HSm.out _ (hHeldHxxxxx.2.2.2.2.1)).mono ?_
  rintro e wf ⟨rfl, hb⟩
  refine hK.out _ _ ?_ (fun hHeldHxxxxxx => ?_)
  · obtain ⟨q0, q1, q2, q3, q4, q5⟩ := hHeldHxxxxx
    exact ⟨keep_cell hb q0, keep_cell hb q1, keep_cell hb q2, keep_cell hb q3, below_next q4 hb q5, le_next q5 hb⟩
  clear hK K hb hHeldHxxxxx
  (try simp only [Act.put, List.setIfInBounds_toArray, List.set_cons_zero, List.set_cons_succ])
  refine wpAnyH_take (i := 52) (oi := { dst := some 99, op := Op.pick (Operand.tmp 95) (Operand.tmp 98) (Operand.const (Value.bool false)), type := 4, pos := "law.go:40", after := #[{ on := 48, ground := Ground.data }, { on := 51, ground := Ground.data }], guard := none }) (v := ?_) rfl (by kernel_rfl) (by kernel_rfl) (by kernel_rfl) (fun _ _ _ h => h) (Or.inl ⟨by rfl, ?hyH52⟩) (by assumption) ?_
  case hyH52 => (intro w hSw; (try dsimp only at hSw); go_simp; try with_reducible rfl)
  (try simp only [Act.put, List.setIfInBounds_toArray, List.set_cons_zero, List.set_cons_succ])
  refine wpAnyH_take (i := 53) (oi := { dst := some 0, op := Op.assign (Operand.tmp 99), type := 4, pos := "law.go:40", after := #[{ on := 52, ground := Ground.data }, { on := 51, ground := Ground.chain }, { on := 0, ground := Ground.phase }, { on := 1, ground := Ground.phase }, { on := 2, ground := Ground.phase }, { on := 3, ground := Ground.phase }, { on := 4, ground := Ground.phase }, { on := 5, ground := Ground.phase }, { on := 6, ground := Ground.phase }, { on := 7, ground := Ground.phase }, { on := 8, ground := Ground.phase }, { on := 9, ground := Ground.phase }, { on := 10, ground := Ground.phase }, { on := 11, ground := Ground.phase }, { on := 12, ground := Ground.phase }, { on := 13, ground := Ground.phase }, { on := 14, ground := Ground.phase }, { on := 15, ground := Ground.phase }, { on := 16, ground := Ground.phase }, { on := 17, ground := Ground.phase }, { on := 18, ground := Ground.phase }, { on := 19, ground := Ground.phase }, { on := 20, ground := Ground.phase }, { on := 21, ground := Ground.phase }, { on := 22, ground := Ground.phase }, { on := 23, ground := Ground.phase }, { on := 24, ground := Ground.phase }, { on := 25, ground := Ground.phase }, { on := 26, ground := Ground.phase }, { on := 27, ground := Ground.phase }, { on := 28, ground := Ground.phase }, { on := 29, ground := Ground.phase }, { on := 30, ground := Ground.phase }, { on := 31, ground := Ground.phase }, { on := 32, ground := Ground.phase }, { on := 33, ground := Ground.phase }, { on := 34, ground := Ground.phase }, { on := 35, ground := Ground.phase }, { on := 36, ground := Ground.phase }, { on := 37, ground := Ground.phase }, { on := 38, ground := Ground.phase }, { on := 39, ground := Ground.phase }, { on := 40, ground := Ground.phase }, { on := 41, ground := Ground.phase }, { on := 42, ground := Ground.phase }, { on := 43, ground := Ground.phase }, { on := 44, ground := Ground.phase }, { on := 45, ground := Ground.phase }, { on := 46, ground := Ground.phase }, { on := 47, ground := Ground.phase }, { on := 48, ground := Ground.phase }, { on := 49, ground := Ground.phase }, { on := 50, ground := Ground.phase }, { on := 51, ground := Ground.phase }, { on := 52, ground := Ground.phase }], guard := none }) (v := ?_) rfl (by kernel_rfl) (by kernel_rfl) (by kernel_rfl) (fun _ _ _ h => h) (Or.inl ⟨by rfl, ?hyH53⟩) (by assumption) ?_
  case hyH53 => (intro w hSw; (try dsimp only at hSw); go_simp; try with_reducible rfl)
  (try simp only [Act.put, List.setIfInBounds_toArray, List.set_cons_zero, List.set_cons_succ])
  refine wpAnyH_done (by kernel_rfl) ?_ _
  obtain ⟨-, -, -, -, hBf, -⟩ := hHeldHxxxxxx
  have HBf : Hid (Below w.heap.size w wf) := next_trans HB5.out hBf
  clear hBf
  go_wp2
  go_ret
  exact ⟨rfl, HBf.out⟩
end Go.Proofs.YtnhbjhdkpbhioaaGreatDoor
