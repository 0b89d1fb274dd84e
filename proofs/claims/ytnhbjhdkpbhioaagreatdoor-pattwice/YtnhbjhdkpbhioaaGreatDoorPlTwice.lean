/- The walk of PatTwice. -/
import Derived.Test.YtnhbjhdkpbhioaaGreatDoorPlKnow
namespace Go.Proofs.YtnhbjhdkpbhioaaGreatDoor
open Go.RowKit

def twL (c : Bool) : List Ts := [⟨0, false, baL [120], 0, 0, noS⟩, ⟨1, c, baL [120], 0, 0, noS⟩]
theorem mat_tw (a b : Int) (c : Bool) : matP ⟨baL [112], twL c⟩ ⟨0, baL [112], [vI a, vI b]⟩ [] = if (sameB 1 b noS 1 a noS != c) = true then some [⟨baL [120], 1, a, noS⟩] else none := by
  have h2 : stepM [vI a, vI b] [⟨baL [120], 1, a, noS⟩] ⟨1, c, baL [120], 0, 0, noS⟩ = if (sameB 1 b noS 1 a noS != c) = true then some [⟨baL [120], 1, a, noS⟩] else none := by
    have hg : gtB [⟨baL [120], 1, a, noS⟩] (baL [120]) = some ⟨baL [120], 1, a, noS⟩ := gtB_hit _ 0 _ _ rfl rfl (fun m x hm hx => by
      match m, hm, hx with
      | m + 1, _, hx => simp at hx)
    unfold stepM
    simp only [List.getElem?_cons_succ, List.getElem?_cons_zero]
    rw [if_neg noS_x, hg]
    rfl
  unfold matP
  rw [show (if (⟨0, baL [112], [vI a, vI b]⟩ : Fc).t = (⟨baL [112], twL c⟩ : Ptn).t then matchL [vI a, vI b] (twL c) [] else none) = matchL [vI a, vI b] (twL c) [] from if_pos rfl]
  unfold twL
  rw [matchL, step_x _ (vI a) rfl]
  show (matchL _ [_] [⟨baL [120], 1, a, noS⟩]) = _
  rw [matchL, h2]
  split
  · next h => split at h <;> simp_all
  · next h => split at h <;> simp_all [matchL]
theorem tss_two {w : World} {b : Nat} {c : Bool} (h : Bx w b #[.int .i64 0, .bool false, .string ⟨#[120]⟩, .int .i64 0, .int .i64 0, .string ⟨#[]⟩, .int .i64 1, .bool c, .string ⟨#[120]⟩, .int .i64 0, .int .i64 0, .string ⟨#[]⟩]) : IsTss w (some ⟨b, 0, none⟩) (twL c) := fun j t hj => by
  match j, hj with
  | 0, hj => simp [twL] at hj; subst hj; exact ⟨_, _, rfl, h.cell 0, h.cell 1, h.cell 2, h.cell 3, h.cell 4, h.cell 5⟩
  | 1, hj => simp [twL] at hj; subst hj; exact ⟨_, _, rfl, h.cell 6, h.cell 7, h.cell 8, h.cell 9, h.cell 10, h.cell 11⟩
  | j + 2, hj => simp [twL] at hj

set_option linter.unusedSimpArgs false in
set_option maxHeartbeats 16000000 in
set_option maxRecDepth 8000 in
theorem twice11_walk (a b : Int) (c : Bool) (w : World) (_ha : inB a = true) (_hb : inB b = true) (h4 : TabW w ∧ MaxW w) :
    Calls Tryz.prog 5 #[.int .i64 a, .int .i64 b, .bool c] w fun e w' => e = .returned (.bool true) ∧ Below w.heap.size w w' := by
  have H4 : Hid (TabW w ∧ MaxW w) := h4
  clear h4 _ha _hb
  go_enter Tryz.func5, Tryz.ntmps5
  go_wp2_with fail
  refine (known11 w H4.out.1 H4.out.2).mono ?_
  rintro e w1 ⟨rfl, hb1⟩
  have HB1 : Hid (Below w.heap.size w w1) := hb1
  obtain ⟨TB, HTB⟩ : ∃ TB, Hid (w1.heap.size + 1 = TB) := ⟨_, rfl⟩
  obtain ⟨W5, HW5⟩ : ∃ W5, Hid ((w1.alloc (.cells #[.int .i64 0, .bool false, .string ⟨#[120]⟩, .int .i64 0, .int .i64 0, .string ⟨#[]⟩, .int .i64 1, .bool c, .string ⟨#[120]⟩, .int .i64 0, .int .i64 0, .string ⟨#[]⟩] 88)).alloc (.cells #[.string ⟨#[112]⟩, .slice (some ⟨w1.heap.size, 0, none⟩) 2 2] 36) = W5) := ⟨_, rfl⟩
  have HX5 : Hid (Bx W5 TB #[.string ⟨#[112]⟩, .slice (some ⟨w1.heap.size, 0, none⟩) 2 2]) := Bx.made' HW5.out (by rw [← HTB.out]; simp)
  have HP5 : Hid (IsTss W5 (some ⟨w1.heap.size, 0, none⟩) (twL c)) := tss_two (by rw [← HW5.out]; exact (Bx.made _ _ _).alloc _)
  have HB5 : Hid (Below w.heap.size w W5) := by rw [← HW5.out]; exact next_trans (next_trans HB1.out (alloc_below _ _)) (alloc_below _ _)
  obtain ⟨PB, HPB⟩ : ∃ PB, Hid (w1.heap.size = PB) := ⟨_, rfl⟩
  rw [HPB.out] at HX5 HP5
  have HMa : Hid (∀ W fo fc, Below W5.heap.size W5 W → IsVals W fo [vI a, vI b] → Calls Tryz.prog 29 #[.agg #[.string ⟨#[112]⟩, .slice (some ⟨PB, 0, none⟩) 2 2], .agg #[.int .i64 0, .string ⟨#[112]⟩, .slice fo 2 fc], .slice none 0 0] W fun e w' => MtE w' (if (sameB 1 b noS 1 a noS != c) = true then some [⟨baL [120], 1, a, noS⟩] else none) e ∧ Below W.heap.size W w') := by
    intro W fo fc hB hv
    have := match_any ⟨baL [112], twL c⟩ (some ⟨PB, 0, none⟩) 2 ⟨0, baL [112], [vI a, vI b]⟩ fo fc [] none 0 W (by show 2 ≤ 1000; omega) (HP5.out.next hB) (by simp) hv (by simp) (IsSls.nil _ _) (fun _ => ⟨rfl, rfl⟩)
    rw [mat_tw] at this
    exact this
  have t0 : W5.cell? ⟨TB, 0, none⟩ = some (.string ⟨#[112]⟩) := HX5.out.cell 0
  have t1 : W5.cell? ⟨TB, 1, none⟩ = some (.slice (some ⟨PB, 0, none⟩) 2 2) := HX5.out.cell 1
  clear hb1 HX5
  go_wp2_with fail
  rw [HW5.out, HPB.out]
  have HTB2 : Hid (PB + 1 = TB) := by rw [← HPB.out]; exact HTB.out
  rw [HTB2.out]
  clear HW5 HPB HTB HTB2 HP5
  by_cases hab : a = b
  · subst hab
    have hsm : sameB 1 a noS 1 a noS = true := sameB_refl _ _ _
    cases c
    · clear HB1
      have HMb : Hid (∀ W fo fc, Below W5.heap.size W5 W → IsVals W fo [vI a, vI a] → Calls Tryz.prog 29 #[.agg #[.string ⟨#[112]⟩, .slice (some ⟨PB, 0, none⟩) 2 2], .agg #[.int .i64 0, .string ⟨#[112]⟩, .slice fo 2 fc], .slice none 0 0] W fun e w' => (∃ ro rc, e = .returned (.tuple #[.slice ro 1 rc, .bool true]) ∧ IsSls w' ro [⟨baL [120], 1, a, noS⟩]) ∧ Below W.heap.size W w') := by
        intro W fo fc hB hv
        have := HMa.out W fo fc hB hv
        rw [hsm, show (true != false) = true from rfl] at this
        rw [if_pos rfl] at this
        exact this
      clear HMa hsm
      refine wp_region_held_drew (S := (fun w' => w'.cell? ⟨TB, 0, none⟩ = some (.string ⟨#[112]⟩) ∧ w'.cell? ⟨TB, 1, none⟩ = some (.slice (some ⟨PB, 0, none⟩) 2 2) ∧ Below W5.heap.size W5 w' ∧ W5.heap.size ≤ w'.heap.size)) (by kernel_rfl) ?_ (fun hHeldA => ?_)
      · exact ⟨t0, t1, (Below.refl _ _).drew, (Below.refl W5.heap.size W5).drew.size⟩
      refine wpAnyH_take (i := 0) (oi := { dst := some 18, op := Op.load 36 (Operand.tmp 7), type := 36, pos := "law.go:122", after := #[], guard := none }) (v := ?_) rfl (by kernel_rfl) (by kernel_rfl) (by kernel_rfl) (fun _ _ _ h => h) (Or.inl ⟨by rfl, ?hyA0⟩) (by assumption) ?_
      case hyA0 => (intro w hSw; (try dsimp only at hSw); go_simp; try with_reducible rfl)
      (try simp only [Act.put, List.setIfInBounds_toArray, List.set_cons_zero, List.set_cons_succ])
      refine wpAnyH_take (i := 1) (oi := { dst := some 19, op := Op.move (Operand.tmp 0), type := 2, pos := "law.go:122", after := #[], guard := none }) (v := ?_) rfl (by kernel_rfl) (by kernel_rfl) (by kernel_rfl) (fun _ _ _ h => h) (Or.inl ⟨by rfl, ?hyA1⟩) (by assumption) ?_
      case hyA1 => (intro w hSw; (try dsimp only at hSw); go_simp; try with_reducible rfl)
      (try simp only [Act.put, List.setIfInBounds_toArray, List.set_cons_zero, List.set_cons_succ])
      refine wpAnyH_take (i := 2) (oi := { dst := some 20, op := Op.move (Operand.tmp 1), type := 2, pos := "law.go:122", after := #[], guard := none }) (v := ?_) rfl (by kernel_rfl) (by kernel_rfl) (by kernel_rfl) (fun _ _ _ h => h) (Or.inl ⟨by rfl, ?hyA2⟩) (by assumption) ?_
      case hyA2 => (intro w hSw; (try dsimp only at hSw); go_simp; try with_reducible rfl)
      (try simp only [Act.put, List.setIfInBounds_toArray, List.set_cons_zero, List.set_cons_succ])
      refine wpAnyH_ready (rs := [3]) (by kernel_rfl) (by simp) ?_
      refine AllReadyH.cons (o := { dst := some 21, op := Op.call { callee := Callee.value (Operand.func 35), args := #[Operand.tmp 19, Operand.tmp 20], argTypes := #[2, 2] }, type := 64, pos := "law.go:122", after := #[{ on := 1, ground := Ground.data }, { on := 2, ground := Ground.data }], guard := none }) rfl (fun K hK => ?_) AllReadyH.nil
      go_simp
      refine (twov_any a a _).mono ?_
      rintro e w6 ⟨⟨fo6, fc6, rfl, hv6⟩, hb⟩
      have HV6 : Hid (IsVals w6 fo6 [vI a, vI a]) := hv6
      clear hv6
      refine hK.out _ _ ?_ (fun hHeldAx => ?_)
      · obtain ⟨q0, q1, q2, q3⟩ := hHeldA
        exact ⟨keep_cell hb q0, keep_cell hb q1, below_next q2 hb q3, le_next q3 hb⟩
      clear hK K hb hHeldA
      (try simp only [Act.put, List.setIfInBounds_toArray, List.set_cons_zero, List.set_cons_succ])
      refine wpAnyH_take (i := 4) (oi := { dst := some 22, op := Op.build 66 #[(1, Operand.const (Value.string { data := #[112] })), (2, Operand.tmp 21)], type := 66, pos := "law.go:122", after := #[{ on := 3, ground := Ground.data }], guard := none }) (v := ?_) rfl (by kernel_rfl) (by kernel_rfl) (by kernel_rfl) (fun _ _ _ h => h) (Or.inl ⟨by rfl, ?hyA4⟩) (by assumption) ?_
      case hyA4 => (intro w hSw; (try dsimp only at hSw); go_simp; try with_reducible rfl)
      (try simp only [Act.put, List.setIfInBounds_toArray, List.set_cons_zero, List.set_cons_succ])
      refine wpAnyH_ready (rs := [5]) (by kernel_rfl) (by simp) ?_
      refine AllReadyH.cons (o := { dst := some 23, op := Op.call { callee := Callee.value (Operand.func 29), args := #[Operand.tmp 18, Operand.tmp 22, Operand.const (Value.slice none 0 0)], argTypes := #[36, 66, 67] }, type := 76, pos := "law.go:122", after := #[{ on := 0, ground := Ground.data }, { on := 4, ground := Ground.data }, { on := 3, ground := Ground.chain }], guard := none }) rfl (fun K hK => ?_) AllReadyH.nil
      go_simp
      refine (HMb.out _ fo6 fc6 (hHeldAx.2.2.1) HV6.out).mono ?_
      rintro e w7 ⟨⟨ro, rc, rfl, hs7⟩, hb⟩
      obtain ⟨bb, oo, rfl, -, -, z2, -⟩ := sl_one hs7
      simp only at z2
      clear hs7 HV6
      refine hK.out _ _ ?_ (fun hHeldAxx => ?_)
      · obtain ⟨q0, q1, q2, q3⟩ := hHeldAx
        exact ⟨keep_cell hb q0, keep_cell hb q1, below_next q2 hb q3, le_next q3 hb⟩
      clear hK K hb hHeldAx
      (try simp only [Act.put, List.setIfInBounds_toArray, List.set_cons_zero, List.set_cons_succ])
      refine wpAnyH_take (i := 6) (oi := { dst := some 17, op := Op.move (Operand.tmp 23), type := 76, pos := "law.go:122", after := #[{ on := 5, ground := Ground.data }], guard := none }) (v := ?_) rfl (by kernel_rfl) (by kernel_rfl) (by kernel_rfl) (fun _ _ _ h => h) (Or.inl ⟨by rfl, ?hyA6⟩) (by assumption) ?_
      case hyA6 => (intro w hSw; (try dsimp only at hSw); go_simp; try with_reducible rfl)
      (try simp only [Act.put, List.setIfInBounds_toArray, List.set_cons_zero, List.set_cons_succ])
      refine wpAnyH_take (i := 7) (oi := { dst := some 24, op := Op.extract (Operand.tmp 17) 0, type := 67, pos := "law.go:122", after := #[{ on := 6, ground := Ground.data }], guard := none }) (v := ?_) rfl (by kernel_rfl) (by kernel_rfl) (by kernel_rfl) (fun _ _ _ h => h) (Or.inl ⟨by rfl, ?hyA7⟩) (by assumption) ?_
      case hyA7 => (intro w hSw; (try dsimp only at hSw); go_simp; try with_reducible rfl)
      (try simp only [Act.put, List.setIfInBounds_toArray, List.set_cons_zero, List.set_cons_succ])
      refine wpAnyH_take (i := 8) (oi := { dst := some 25, op := Op.extract (Operand.tmp 17) 1, type := 4, pos := "law.go:122", after := #[{ on := 6, ground := Ground.data }, { on := 9, ground := Ground.gcOnly Departure.lateStores }], guard := none }) (v := ?_) rfl (by kernel_rfl) (by kernel_rfl) (by kernel_rfl) (fun _ _ _ h => h) (Or.inl ⟨by rfl, ?hyA8⟩) (by assumption) ?_
      case hyA8 => (intro w hSw; (try dsimp only at hSw); go_simp; try with_reducible rfl)
      (try simp only [Act.put, List.setIfInBounds_toArray, List.set_cons_zero, List.set_cons_succ])
      refine wpAnyH_take (i := 9) (oi := { dst := some 8, op := Op.assign (Operand.tmp 24), type := 67, pos := "law.go:122", after := #[{ on := 7, ground := Ground.data }, { on := 5, ground := Ground.chain }, { on := 0, ground := Ground.phase }, { on := 1, ground := Ground.phase }, { on := 2, ground := Ground.phase }, { on := 3, ground := Ground.phase }, { on := 4, ground := Ground.phase }, { on := 5, ground := Ground.phase }, { on := 6, ground := Ground.phase }, { on := 7, ground := Ground.phase }, { on := 8, ground := Ground.textOnly Departure.lateStores }], guard := none }) (v := ?_) rfl (by kernel_rfl) (by kernel_rfl) (by kernel_rfl) (fun _ _ _ h => h) (Or.inl ⟨by rfl, ?hyA9⟩) (by assumption) ?_
      case hyA9 => (intro w hSw; (try dsimp only at hSw); go_simp; try with_reducible rfl)
      (try simp only [Act.put, List.setIfInBounds_toArray, List.set_cons_zero, List.set_cons_succ])
      refine wpAnyH_take (i := 10) (oi := { dst := some 9, op := Op.assign (Operand.tmp 25), type := 4, pos := "law.go:122", after := #[{ on := 8, ground := Ground.data }, { on := 9, ground := Ground.chain }, { on := 0, ground := Ground.phase }, { on := 1, ground := Ground.phase }, { on := 2, ground := Ground.phase }, { on := 3, ground := Ground.phase }, { on := 4, ground := Ground.phase }, { on := 5, ground := Ground.phase }, { on := 6, ground := Ground.phase }, { on := 7, ground := Ground.phase }, { on := 8, ground := Ground.phase }, { on := 9, ground := Ground.phase }], guard := none }) (v := ?_) rfl (by kernel_rfl) (by kernel_rfl) (by kernel_rfl) (fun _ _ _ h => h) (Or.inl ⟨by rfl, ?hyA10⟩) (by assumption) ?_
      case hyA10 => (intro w hSw; (try dsimp only at hSw); go_simp; try with_reducible rfl)
      (try simp only [Act.put, List.setIfInBounds_toArray, List.set_cons_zero, List.set_cons_succ])
      refine wpAnyH_done (by kernel_rfl) ?_ _
      have HB7 : Hid (Below w.heap.size w w7) := next_trans HB5.out (hHeldAxx.2.2.1)
      clear hHeldAxx t0 t1
      go_wp2
      go_ret
      exact ⟨rfl, HB7.out⟩
    · clear HB1
      have HMb : Hid (∀ W fo fc, Below W5.heap.size W5 W → IsVals W fo [vI a, vI a] → Calls Tryz.prog 29 #[.agg #[.string ⟨#[112]⟩, .slice (some ⟨PB, 0, none⟩) 2 2], .agg #[.int .i64 0, .string ⟨#[112]⟩, .slice fo 2 fc], .slice none 0 0] W fun e w' => e = .returned (.tuple #[.slice none 0 0, .bool false]) ∧ Below W.heap.size W w') := by
        intro W fo fc hB hv
        have := HMa.out W fo fc hB hv
        rw [hsm, show (true != true) = false from rfl] at this
        rw [if_neg (by decide)] at this
        exact this
      clear HMa hsm
      refine wp_region_held_drew (S := (fun w' => w'.cell? ⟨TB, 0, none⟩ = some (.string ⟨#[112]⟩) ∧ w'.cell? ⟨TB, 1, none⟩ = some (.slice (some ⟨PB, 0, none⟩) 2 2) ∧ Below W5.heap.size W5 w' ∧ W5.heap.size ≤ w'.heap.size)) (by kernel_rfl) ?_ (fun hHeldB => ?_)
      · exact ⟨t0, t1, (Below.refl _ _).drew, (Below.refl W5.heap.size W5).drew.size⟩
      refine wpAnyH_take (i := 0) (oi := { dst := some 18, op := Op.load 36 (Operand.tmp 7), type := 36, pos := "law.go:122", after := #[], guard := none }) (v := ?_) rfl (by kernel_rfl) (by kernel_rfl) (by kernel_rfl) (fun _ _ _ h => h) (Or.inl ⟨by rfl, ?hyB0⟩) (by assumption) ?_
      case hyB0 => (intro w hSw; (try dsimp only at hSw); go_simp; try with_reducible rfl)
      (try simp only [Act.put, List.setIfInBounds_toArray, List.set_cons_zero, List.set_cons_succ])
      refine wpAnyH_take (i := 1) (oi := { dst := some 19, op := Op.move (Operand.tmp 0), type := 2, pos := "law.go:122", after := #[], guard := none }) (v := ?_) rfl (by kernel_rfl) (by kernel_rfl) (by kernel_rfl) (fun _ _ _ h => h) (Or.inl ⟨by rfl, ?hyB1⟩) (by assumption) ?_
      case hyB1 => (intro w hSw; (try dsimp only at hSw); go_simp; try with_reducible rfl)
      (try simp only [Act.put, List.setIfInBounds_toArray, List.set_cons_zero, List.set_cons_succ])
      refine wpAnyH_take (i := 2) (oi := { dst := some 20, op := Op.move (Operand.tmp 1), type := 2, pos := "law.go:122", after := #[], guard := none }) (v := ?_) rfl (by kernel_rfl) (by kernel_rfl) (by kernel_rfl) (fun _ _ _ h => h) (Or.inl ⟨by rfl, ?hyB2⟩) (by assumption) ?_
      case hyB2 => (intro w hSw; (try dsimp only at hSw); go_simp; try with_reducible rfl)
      (try simp only [Act.put, List.setIfInBounds_toArray, List.set_cons_zero, List.set_cons_succ])
      refine wpAnyH_ready (rs := [3]) (by kernel_rfl) (by simp) ?_
      refine AllReadyH.cons (o := { dst := some 21, op := Op.call { callee := Callee.value (Operand.func 35), args := #[Operand.tmp 19, Operand.tmp 20], argTypes := #[2, 2] }, type := 64, pos := "law.go:122", after := #[{ on := 1, ground := Ground.data }, { on := 2, ground := Ground.data }], guard := none }) rfl (fun K hK => ?_) AllReadyH.nil
      go_simp
      refine (twov_any a a _).mono ?_
      rintro e w6 ⟨⟨fo6, fc6, rfl, hv6⟩, hb⟩
      have HV6 : Hid (IsVals w6 fo6 [vI a, vI a]) := hv6
      clear hv6
      refine hK.out _ _ ?_ (fun hHeldBx => ?_)
      · obtain ⟨q0, q1, q2, q3⟩ := hHeldB
        exact ⟨keep_cell hb q0, keep_cell hb q1, below_next q2 hb q3, le_next q3 hb⟩
      clear hK K hb hHeldB
      (try simp only [Act.put, List.setIfInBounds_toArray, List.set_cons_zero, List.set_cons_succ])
      refine wpAnyH_take (i := 4) (oi := { dst := some 22, op := Op.build 66 #[(1, Operand.const (Value.string { data := #[112] })), (2, Operand.tmp 21)], type := 66, pos := "law.go:122", after := #[{ on := 3, ground := Ground.data }], guard := none }) (v := ?_) rfl (by kernel_rfl) (by kernel_rfl) (by kernel_rfl) (fun _ _ _ h => h) (Or.inl ⟨by rfl, ?hyB4⟩) (by assumption) ?_
      case hyB4 => (intro w hSw; (try dsimp only at hSw); go_simp; try with_reducible rfl)
      (try simp only [Act.put, List.setIfInBounds_toArray, List.set_cons_zero, List.set_cons_succ])
      refine wpAnyH_ready (rs := [5]) (by kernel_rfl) (by simp) ?_
      refine AllReadyH.cons (o := { dst := some 23, op := Op.call { callee := Callee.value (Operand.func 29), args := #[Operand.tmp 18, Operand.tmp 22, Operand.const (Value.slice none 0 0)], argTypes := #[36, 66, 67] }, type := 76, pos := "law.go:122", after := #[{ on := 0, ground := Ground.data }, { on := 4, ground := Ground.data }, { on := 3, ground := Ground.chain }], guard := none }) rfl (fun K hK => ?_) AllReadyH.nil
      go_simp
      refine (HMb.out _ fo6 fc6 (hHeldBx.2.2.1) HV6.out).mono ?_
      rintro e w7 ⟨rfl, hb⟩
      clear HV6
      refine hK.out _ _ ?_ (fun hHeldBxx => ?_)
      · obtain ⟨q0, q1, q2, q3⟩ := hHeldBx
        exact ⟨keep_cell hb q0, keep_cell hb q1, below_next q2 hb q3, le_next q3 hb⟩
      clear hK K hb hHeldBx
      (try simp only [Act.put, List.setIfInBounds_toArray, List.set_cons_zero, List.set_cons_succ])
      refine wpAnyH_take (i := 6) (oi := { dst := some 17, op := Op.move (Operand.tmp 23), type := 76, pos := "law.go:122", after := #[{ on := 5, ground := Ground.data }], guard := none }) (v := ?_) rfl (by kernel_rfl) (by kernel_rfl) (by kernel_rfl) (fun _ _ _ h => h) (Or.inl ⟨by rfl, ?hyB6⟩) (by assumption) ?_
      case hyB6 => (intro w hSw; (try dsimp only at hSw); go_simp; try with_reducible rfl)
      (try simp only [Act.put, List.setIfInBounds_toArray, List.set_cons_zero, List.set_cons_succ])
      refine wpAnyH_take (i := 7) (oi := { dst := some 24, op := Op.extract (Operand.tmp 17) 0, type := 67, pos := "law.go:122", after := #[{ on := 6, ground := Ground.data }], guard := none }) (v := ?_) rfl (by kernel_rfl) (by kernel_rfl) (by kernel_rfl) (fun _ _ _ h => h) (Or.inl ⟨by rfl, ?hyB7⟩) (by assumption) ?_
      case hyB7 => (intro w hSw; (try dsimp only at hSw); go_simp; try with_reducible rfl)
      (try simp only [Act.put, List.setIfInBounds_toArray, List.set_cons_zero, List.set_cons_succ])
      refine wpAnyH_take (i := 8) (oi := { dst := some 25, op := Op.extract (Operand.tmp 17) 1, type := 4, pos := "law.go:122", after := #[{ on := 6, ground := Ground.data }, { on := 9, ground := Ground.gcOnly Departure.lateStores }], guard := none }) (v := ?_) rfl (by kernel_rfl) (by kernel_rfl) (by kernel_rfl) (fun _ _ _ h => h) (Or.inl ⟨by rfl, ?hyB8⟩) (by assumption) ?_
      case hyB8 => (intro w hSw; (try dsimp only at hSw); go_simp; try with_reducible rfl)
      (try simp only [Act.put, List.setIfInBounds_toArray, List.set_cons_zero, List.set_cons_succ])
      refine wpAnyH_take (i := 9) (oi := { dst := some 8, op := Op.assign (Operand.tmp 24), type := 67, pos := "law.go:122", after := #[{ on := 7, ground := Ground.data }, { on := 5, ground := Ground.chain }, { on := 0, ground := Ground.phase }, { on := 1, ground := Ground.phase }, { on := 2, ground := Ground.phase }, { on := 3, ground := Ground.phase }, { on := 4, ground := Ground.phase }, { on := 5, ground := Ground.phase }, { on := 6, ground := Ground.phase }, { on := 7, ground := Ground.phase }, { on := 8, ground := Ground.textOnly Departure.lateStores }], guard := none }) (v := ?_) rfl (by kernel_rfl) (by kernel_rfl) (by kernel_rfl) (fun _ _ _ h => h) (Or.inl ⟨by rfl, ?hyB9⟩) (by assumption) ?_
      case hyB9 => (intro w hSw; (try dsimp only at hSw); go_simp; try with_reducible rfl)
      (try simp only [Act.put, List.setIfInBounds_toArray, List.set_cons_zero, List.set_cons_succ])
      refine wpAnyH_take (i := 10) (oi := { dst := some 9, op := Op.assign (Operand.tmp 25), type := 4, pos := "law.go:122", after := #[{ on := 8, ground := Ground.data }, { on := 9, ground := Ground.chain }, { on := 0, ground := Ground.phase }, { on := 1, ground := Ground.phase }, { on := 2, ground := Ground.phase }, { on := 3, ground := Ground.phase }, { on := 4, ground := Ground.phase }, { on := 5, ground := Ground.phase }, { on := 6, ground := Ground.phase }, { on := 7, ground := Ground.phase }, { on := 8, ground := Ground.phase }, { on := 9, ground := Ground.phase }], guard := none }) (v := ?_) rfl (by kernel_rfl) (by kernel_rfl) (by kernel_rfl) (fun _ _ _ h => h) (Or.inl ⟨by rfl, ?hyB10⟩) (by assumption) ?_
      case hyB10 => (intro w hSw; (try dsimp only at hSw); go_simp; try with_reducible rfl)
      (try simp only [Act.put, List.setIfInBounds_toArray, List.set_cons_zero, List.set_cons_succ])
      refine wpAnyH_done (by kernel_rfl) ?_ _
      have HB7 : Hid (Below w.heap.size w w7) := next_trans HB5.out (hHeldBxx.2.2.1)
      clear hHeldBxx t0 t1
      go_wp2
      go_ret
      exact ⟨rfl, HB7.out⟩
  · have hsm : sameB 1 b noS 1 a noS = false := sameB_no (fun h => hab h.2.1.symm)
    have hab2 : (a == b) = false := by simp; exact hab
    cases c
    · clear HB1
      have HMb : Hid (∀ W fo fc, Below W5.heap.size W5 W → IsVals W fo [vI a, vI b] → Calls Tryz.prog 29 #[.agg #[.string ⟨#[112]⟩, .slice (some ⟨PB, 0, none⟩) 2 2], .agg #[.int .i64 0, .string ⟨#[112]⟩, .slice fo 2 fc], .slice none 0 0] W fun e w' => e = .returned (.tuple #[.slice none 0 0, .bool false]) ∧ Below W.heap.size W w') := by
        intro W fo fc hB hv
        have := HMa.out W fo fc hB hv
        rw [hsm, show (false != false) = false from rfl] at this
        rw [if_neg (by decide)] at this
        exact this
      clear HMa hsm
      refine wp_region_held_drew (S := (fun w' => w'.cell? ⟨TB, 0, none⟩ = some (.string ⟨#[112]⟩) ∧ w'.cell? ⟨TB, 1, none⟩ = some (.slice (some ⟨PB, 0, none⟩) 2 2) ∧ Below W5.heap.size W5 w' ∧ W5.heap.size ≤ w'.heap.size)) (by kernel_rfl) ?_ (fun hHeldC => ?_)
      · exact ⟨t0, t1, (Below.refl _ _).drew, (Below.refl W5.heap.size W5).drew.size⟩
      refine wpAnyH_take (i := 0) (oi := { dst := some 18, op := Op.load 36 (Operand.tmp 7), type := 36, pos := "law.go:122", after := #[], guard := none }) (v := ?_) rfl (by kernel_rfl) (by kernel_rfl) (by kernel_rfl) (fun _ _ _ h => h) (Or.inl ⟨by rfl, ?hyC0⟩) (by assumption) ?_
      case hyC0 => (intro w hSw; (try dsimp only at hSw); go_simp; try with_reducible rfl)
      (try simp only [Act.put, List.setIfInBounds_toArray, List.set_cons_zero, List.set_cons_succ])
      refine wpAnyH_take (i := 1) (oi := { dst := some 19, op := Op.move (Operand.tmp 0), type := 2, pos := "law.go:122", after := #[], guard := none }) (v := ?_) rfl (by kernel_rfl) (by kernel_rfl) (by kernel_rfl) (fun _ _ _ h => h) (Or.inl ⟨by rfl, ?hyC1⟩) (by assumption) ?_
      case hyC1 => (intro w hSw; (try dsimp only at hSw); go_simp; try with_reducible rfl)
      (try simp only [Act.put, List.setIfInBounds_toArray, List.set_cons_zero, List.set_cons_succ])
      refine wpAnyH_take (i := 2) (oi := { dst := some 20, op := Op.move (Operand.tmp 1), type := 2, pos := "law.go:122", after := #[], guard := none }) (v := ?_) rfl (by kernel_rfl) (by kernel_rfl) (by kernel_rfl) (fun _ _ _ h => h) (Or.inl ⟨by rfl, ?hyC2⟩) (by assumption) ?_
      case hyC2 => (intro w hSw; (try dsimp only at hSw); go_simp; try with_reducible rfl)
      (try simp only [Act.put, List.setIfInBounds_toArray, List.set_cons_zero, List.set_cons_succ])
      refine wpAnyH_ready (rs := [3]) (by kernel_rfl) (by simp) ?_
      refine AllReadyH.cons (o := { dst := some 21, op := Op.call { callee := Callee.value (Operand.func 35), args := #[Operand.tmp 19, Operand.tmp 20], argTypes := #[2, 2] }, type := 64, pos := "law.go:122", after := #[{ on := 1, ground := Ground.data }, { on := 2, ground := Ground.data }], guard := none }) rfl (fun K hK => ?_) AllReadyH.nil
      go_simp
      refine (twov_any a b _).mono ?_
      rintro e w6 ⟨⟨fo6, fc6, rfl, hv6⟩, hb⟩
      have HV6 : Hid (IsVals w6 fo6 [vI a, vI b]) := hv6
      clear hv6
      refine hK.out _ _ ?_ (fun hHeldCx => ?_)
      · obtain ⟨q0, q1, q2, q3⟩ := hHeldC
        exact ⟨keep_cell hb q0, keep_cell hb q1, below_next q2 hb q3, le_next q3 hb⟩
      clear hK K hb hHeldC
      (try simp only [Act.put, List.setIfInBounds_toArray, List.set_cons_zero, List.set_cons_succ])
      refine wpAnyH_take (i := 4) (oi := { dst := some 22, op := Op.build 66 #[(1, Operand.const (Value.string { data := #[112] })), (2, Operand.tmp 21)], type := 66, pos := "law.go:122", after := #[{ on := 3, ground := Ground.data }], guard := none }) (v := ?_) rfl (by kernel_rfl) (by kernel_rfl) (by kernel_rfl) (fun _ _ _ h => h) (Or.inl ⟨by rfl, ?hyC4⟩) (by assumption) ?_
      case hyC4 => (intro w hSw; (try dsimp only at hSw); go_simp; try with_reducible rfl)
      (try simp only [Act.put, List.setIfInBounds_toArray, List.set_cons_zero, List.set_cons_succ])
      refine wpAnyH_ready (rs := [5]) (by kernel_rfl) (by simp) ?_
      refine AllReadyH.cons (o := { dst := some 23, op := Op.call { callee := Callee.value (Operand.func 29), args := #[Operand.tmp 18, Operand.tmp 22, Operand.const (Value.slice none 0 0)], argTypes := #[36, 66, 67] }, type := 76, pos := "law.go:122", after := #[{ on := 0, ground := Ground.data }, { on := 4, ground := Ground.data }, { on := 3, ground := Ground.chain }], guard := none }) rfl (fun K hK => ?_) AllReadyH.nil
      go_simp
      refine (HMb.out _ fo6 fc6 (hHeldCx.2.2.1) HV6.out).mono ?_
      rintro e w7 ⟨rfl, hb⟩
      clear HV6
      refine hK.out _ _ ?_ (fun hHeldCxx => ?_)
      · obtain ⟨q0, q1, q2, q3⟩ := hHeldCx
        exact ⟨keep_cell hb q0, keep_cell hb q1, below_next q2 hb q3, le_next q3 hb⟩
      clear hK K hb hHeldCx
      (try simp only [Act.put, List.setIfInBounds_toArray, List.set_cons_zero, List.set_cons_succ])
      refine wpAnyH_take (i := 6) (oi := { dst := some 17, op := Op.move (Operand.tmp 23), type := 76, pos := "law.go:122", after := #[{ on := 5, ground := Ground.data }], guard := none }) (v := ?_) rfl (by kernel_rfl) (by kernel_rfl) (by kernel_rfl) (fun _ _ _ h => h) (Or.inl ⟨by rfl, ?hyC6⟩) (by assumption) ?_
      case hyC6 => (intro w hSw; (try dsimp only at hSw); go_simp; try with_reducible rfl)
      (try simp only [Act.put, List.setIfInBounds_toArray, List.set_cons_zero, List.set_cons_succ])
      refine wpAnyH_take (i := 7) (oi := { dst := some 24, op := Op.extract (Operand.tmp 17) 0, type := 67, pos := "law.go:122", after := #[{ on := 6, ground := Ground.data }], guard := none }) (v := ?_) rfl (by kernel_rfl) (by kernel_rfl) (by kernel_rfl) (fun _ _ _ h => h) (Or.inl ⟨by rfl, ?hyC7⟩) (by assumption) ?_
      case hyC7 => (intro w hSw; (try dsimp only at hSw); go_simp; try with_reducible rfl)
      (try simp only [Act.put, List.setIfInBounds_toArray, List.set_cons_zero, List.set_cons_succ])
      refine wpAnyH_take (i := 8) (oi := { dst := some 25, op := Op.extract (Operand.tmp 17) 1, type := 4, pos := "law.go:122", after := #[{ on := 6, ground := Ground.data }, { on := 9, ground := Ground.gcOnly Departure.lateStores }], guard := none }) (v := ?_) rfl (by kernel_rfl) (by kernel_rfl) (by kernel_rfl) (fun _ _ _ h => h) (Or.inl ⟨by rfl, ?hyC8⟩) (by assumption) ?_
      case hyC8 => (intro w hSw; (try dsimp only at hSw); go_simp; try with_reducible rfl)
      (try simp only [Act.put, List.setIfInBounds_toArray, List.set_cons_zero, List.set_cons_succ])
      refine wpAnyH_take (i := 9) (oi := { dst := some 8, op := Op.assign (Operand.tmp 24), type := 67, pos := "law.go:122", after := #[{ on := 7, ground := Ground.data }, { on := 5, ground := Ground.chain }, { on := 0, ground := Ground.phase }, { on := 1, ground := Ground.phase }, { on := 2, ground := Ground.phase }, { on := 3, ground := Ground.phase }, { on := 4, ground := Ground.phase }, { on := 5, ground := Ground.phase }, { on := 6, ground := Ground.phase }, { on := 7, ground := Ground.phase }, { on := 8, ground := Ground.textOnly Departure.lateStores }], guard := none }) (v := ?_) rfl (by kernel_rfl) (by kernel_rfl) (by kernel_rfl) (fun _ _ _ h => h) (Or.inl ⟨by rfl, ?hyC9⟩) (by assumption) ?_
      case hyC9 => (intro w hSw; (try dsimp only at hSw); go_simp; try with_reducible rfl)
      (try simp only [Act.put, List.setIfInBounds_toArray, List.set_cons_zero, List.set_cons_succ])
      refine wpAnyH_take (i := 10) (oi := { dst := some 9, op := Op.assign (Operand.tmp 25), type := 4, pos := "law.go:122", after := #[{ on := 8, ground := Ground.data }, { on := 9, ground := Ground.chain }, { on := 0, ground := Ground.phase }, { on := 1, ground := Ground.phase }, { on := 2, ground := Ground.phase }, { on := 3, ground := Ground.phase }, { on := 4, ground := Ground.phase }, { on := 5, ground := Ground.phase }, { on := 6, ground := Ground.phase }, { on := 7, ground := Ground.phase }, { on := 8, ground := Ground.phase }, { on := 9, ground := Ground.phase }], guard := none }) (v := ?_) rfl (by kernel_rfl) (by kernel_rfl) (by kernel_rfl) (fun _ _ _ h => h) (Or.inl ⟨by rfl, ?hyC10⟩) (by assumption) ?_
      case hyC10 => (intro w hSw; (try dsimp only at hSw); go_simp; try with_reducible rfl)
      (try simp only [Act.put, List.setIfInBounds_toArray, List.set_cons_zero, List.set_cons_succ])
      refine wpAnyH_done (by kernel_rfl) ?_ _
      have HB7 : Hid (Below w.heap.size w w7) := next_trans HB5.out (hHeldCxx.2.2.1)
      clear hHeldCxx t0 t1
      go_wp2
      go_ret
      exact ⟨rfl, HB7.out⟩
    · clear HB1
      have HMb : Hid (∀ W fo fc, Below W5.heap.size W5 W → IsVals W fo [vI a, vI b] → Calls Tryz.prog 29 #[.agg #[.string ⟨#[112]⟩, .slice (some ⟨PB, 0, none⟩) 2 2], .agg #[.int .i64 0, .string ⟨#[112]⟩, .slice fo 2 fc], .slice none 0 0] W fun e w' => (∃ ro rc, e = .returned (.tuple #[.slice ro 1 rc, .bool true]) ∧ IsSls w' ro [⟨baL [120], 1, a, noS⟩]) ∧ Below W.heap.size W w') := by
        intro W fo fc hB hv
        have := HMa.out W fo fc hB hv
        rw [hsm, show (false != true) = true from rfl] at this
        rw [if_pos rfl] at this
        exact this
      clear HMa hsm
      refine wp_region_held_drew (S := (fun w' => w'.cell? ⟨TB, 0, none⟩ = some (.string ⟨#[112]⟩) ∧ w'.cell? ⟨TB, 1, none⟩ = some (.slice (some ⟨PB, 0, none⟩) 2 2) ∧ Below W5.heap.size W5 w' ∧ W5.heap.size ≤ w'.heap.size)) (by kernel_rfl) ?_ (fun hHeldD => ?_)
      · exact ⟨t0, t1, (Below.refl _ _).drew, (Below.refl W5.heap.size W5).drew.size⟩
      refine wpAnyH_take (i := 0) (oi := { dst := some 18, op := Op.load 36 (Operand.tmp 7), type := 36, pos := "law.go:122", after := #[], guard := none }) (v := ?_) rfl (by kernel_rfl) (by kernel_rfl) (by kernel_rfl) (fun _ _ _ h => h) (Or.inl ⟨by rfl, ?hyD0⟩) (by assumption) ?_
      case hyD0 => (intro w hSw; (try dsimp only at hSw); go_simp; try with_reducible rfl)
      (try simp only [Act.put, List.setIfInBounds_toArray, List.set_cons_zero, List.set_cons_succ])
      refine wpAnyH_take (i := 1) (oi := { dst := some 19, op := Op.move (Operand.tmp 0), type := 2, pos := "law.go:122", after := #[], guard := none }) (v := ?_) rfl (by kernel_rfl) (by kernel_rfl) (by kernel_rfl) (fun _ _ _ h => h) (Or.inl ⟨by rfl, ?hyD1⟩) (by assumption) ?_
      case hyD1 => (intro w hSw; (try dsimp only at hSw); go_simp; try with_reducible rfl)
      (try simp only [Act.put, List.setIfInBounds_toArray, List.set_cons_zero, List.set_cons_succ])
      refine wpAnyH_take (i := 2) (oi := { dst := some 20, op := Op.move (Operand.tmp 1), type := 2, pos := "law.go:122", after := #[], guard := none }) (v := ?_) rfl (by kernel_rfl) (by kernel_rfl) (by kernel_rfl) (fun _ _ _ h => h) (Or.inl ⟨by rfl, ?hyD2⟩) (by assumption) ?_
      case hyD2 => (intro w hSw; (try dsimp only at hSw); go_simp; try with_reducible rfl)
      (try simp only [Act.put, List.setIfInBounds_toArray, List.set_cons_zero, List.set_cons_succ])
      refine wpAnyH_ready (rs := [3]) (by kernel_rfl) (by simp) ?_
      refine AllReadyH.cons (o := { dst := some 21, op := Op.call { callee := Callee.value (Operand.func 35), args := #[Operand.tmp 19, Operand.tmp 20], argTypes := #[2, 2] }, type := 64, pos := "law.go:122", after := #[{ on := 1, ground := Ground.data }, { on := 2, ground := Ground.data }], guard := none }) rfl (fun K hK => ?_) AllReadyH.nil
      go_simp
      refine (twov_any a b _).mono ?_
      rintro e w6 ⟨⟨fo6, fc6, rfl, hv6⟩, hb⟩
      have HV6 : Hid (IsVals w6 fo6 [vI a, vI b]) := hv6
      clear hv6
      refine hK.out _ _ ?_ (fun hHeldDx => ?_)
      · obtain ⟨q0, q1, q2, q3⟩ := hHeldD
        exact ⟨keep_cell hb q0, keep_cell hb q1, below_next q2 hb q3, le_next q3 hb⟩
      clear hK K hb hHeldD
      (try simp only [Act.put, List.setIfInBounds_toArray, List.set_cons_zero, List.set_cons_succ])
      refine wpAnyH_take (i := 4) (oi := { dst := some 22, op := Op.build 66 #[(1, Operand.const (Value.string { data := #[112] })), (2, Operand.tmp 21)], type := 66, pos := "law.go:122", after := #[{ on := 3, ground := Ground.data }], guard := none }) (v := ?_) rfl (by kernel_rfl) (by kernel_rfl) (by kernel_rfl) (fun _ _ _ h => h) (Or.inl ⟨by rfl, ?hyD4⟩) (by assumption) ?_
      case hyD4 => (intro w hSw; (try dsimp only at hSw); go_simp; try with_reducible rfl)
      (try simp only [Act.put, List.setIfInBounds_toArray, List.set_cons_zero, List.set_cons_succ])
      refine wpAnyH_ready (rs := [5]) (by kernel_rfl) (by simp) ?_
      refine AllReadyH.cons (o := { dst := some 23, op := Op.call { callee := Callee.value (Operand.func 29), args := #[Operand.tmp 18, Operand.tmp 22, Operand.const (Value.slice none 0 0)], argTypes := #[36, 66, 67] }, type := 76, pos := "law.go:122", after := #[{ on := 0, ground := Ground.data }, { on := 4, ground := Ground.data }, { on := 3, ground := Ground.chain }], guard := none }) rfl (fun K hK => ?_) AllReadyH.nil
      go_simp
      refine (HMb.out _ fo6 fc6 (hHeldDx.2.2.1) HV6.out).mono ?_
      rintro e w7 ⟨⟨ro, rc, rfl, hs7⟩, hb⟩
      obtain ⟨bb, oo, rfl, -, -, z2, -⟩ := sl_one hs7
      simp only at z2
      clear hs7 HV6
      refine hK.out _ _ ?_ (fun hHeldDxx => ?_)
      · obtain ⟨q0, q1, q2, q3⟩ := hHeldDx
        exact ⟨keep_cell hb q0, keep_cell hb q1, below_next q2 hb q3, le_next q3 hb⟩
      clear hK K hb hHeldDx
      (try simp only [Act.put, List.setIfInBounds_toArray, List.set_cons_zero, List.set_cons_succ])
      refine wpAnyH_take (i := 6) (oi := { dst := some 17, op := Op.move (Operand.tmp 23), type := 76, pos := "law.go:122", after := #[{ on := 5, ground := Ground.data }], guard := none }) (v := ?_) rfl (by kernel_rfl) (by kernel_rfl) (by kernel_rfl) (fun _ _ _ h => h) (Or.inl ⟨by rfl, ?hyD6⟩) (by assumption) ?_
      case hyD6 => (intro w hSw; (try dsimp only at hSw); go_simp; try with_reducible rfl)
      (try simp only [Act.put, List.setIfInBounds_toArray, List.set_cons_zero, List.set_cons_succ])
      refine wpAnyH_take (i := 7) (oi := { dst := some 24, op := Op.extract (Operand.tmp 17) 0, type := 67, pos := "law.go:122", after := #[{ on := 6, ground := Ground.data }], guard := none }) (v := ?_) rfl (by kernel_rfl) (by kernel_rfl) (by kernel_rfl) (fun _ _ _ h => h) (Or.inl ⟨by rfl, ?hyD7⟩) (by assumption) ?_
      case hyD7 => (intro w hSw; (try dsimp only at hSw); go_simp; try with_reducible rfl)
      (try simp only [Act.put, List.setIfInBounds_toArray, List.set_cons_zero, List.set_cons_succ])
      refine wpAnyH_take (i := 8) (oi := { dst := some 25, op := Op.extract (Operand.tmp 17) 1, type := 4, pos := "law.go:122", after := #[{ on := 6, ground := Ground.data }, { on := 9, ground := Ground.gcOnly Departure.lateStores }], guard := none }) (v := ?_) rfl (by kernel_rfl) (by kernel_rfl) (by kernel_rfl) (fun _ _ _ h => h) (Or.inl ⟨by rfl, ?hyD8⟩) (by assumption) ?_
      case hyD8 => (intro w hSw; (try dsimp only at hSw); go_simp; try with_reducible rfl)
      (try simp only [Act.put, List.setIfInBounds_toArray, List.set_cons_zero, List.set_cons_succ])
      refine wpAnyH_take (i := 9) (oi := { dst := some 8, op := Op.assign (Operand.tmp 24), type := 67, pos := "law.go:122", after := #[{ on := 7, ground := Ground.data }, { on := 5, ground := Ground.chain }, { on := 0, ground := Ground.phase }, { on := 1, ground := Ground.phase }, { on := 2, ground := Ground.phase }, { on := 3, ground := Ground.phase }, { on := 4, ground := Ground.phase }, { on := 5, ground := Ground.phase }, { on := 6, ground := Ground.phase }, { on := 7, ground := Ground.phase }, { on := 8, ground := Ground.textOnly Departure.lateStores }], guard := none }) (v := ?_) rfl (by kernel_rfl) (by kernel_rfl) (by kernel_rfl) (fun _ _ _ h => h) (Or.inl ⟨by rfl, ?hyD9⟩) (by assumption) ?_
      case hyD9 => (intro w hSw; (try dsimp only at hSw); go_simp; try with_reducible rfl)
      (try simp only [Act.put, List.setIfInBounds_toArray, List.set_cons_zero, List.set_cons_succ])
      refine wpAnyH_take (i := 10) (oi := { dst := some 9, op := Op.assign (Operand.tmp 25), type := 4, pos := "law.go:122", after := #[{ on := 8, ground := Ground.data }, { on := 9, ground := Ground.chain }, { on := 0, ground := Ground.phase }, { on := 1, ground := Ground.phase }, { on := 2, ground := Ground.phase }, { on := 3, ground := Ground.phase }, { on := 4, ground := Ground.phase }, { on := 5, ground := Ground.phase }, { on := 6, ground := Ground.phase }, { on := 7, ground := Ground.phase }, { on := 8, ground := Ground.phase }, { on := 9, ground := Ground.phase }], guard := none }) (v := ?_) rfl (by kernel_rfl) (by kernel_rfl) (by kernel_rfl) (fun _ _ _ h => h) (Or.inl ⟨by rfl, ?hyD10⟩) (by assumption) ?_
      case hyD10 => (intro w hSw; (try dsimp only at hSw); go_simp; try with_reducible rfl)
      (try simp only [Act.put, List.setIfInBounds_toArray, List.set_cons_zero, List.set_cons_succ])
      refine wpAnyH_done (by kernel_rfl) ?_ _
      have HB7 : Hid (Below w.heap.size w w7) := next_trans HB5.out (hHeldDxx.2.2.1)
      clear hHeldDxx t0 t1
      go_wp2
      go_ret
      exact ⟨rfl, HB7.out⟩
end Go.Proofs.YtnhbjhdkpbhioaaGreatDoor
