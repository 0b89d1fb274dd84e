/- The walk of the law MemoryPlays. -/
import Derived.Test.YtgjnnahflaaagaaDoorPlaysO
import Derived.Test.YtgjnnahflaaagaaDoorPlaysN
import Derived.Test.YtgjnnahflaaagaaDoorPlaysG
import Derived.Deep.CutRange
import Derived.Deep.CutBlock
namespace Go.Proofs.YtgjnnahflaaagaaDoor
open Go.RowKit Go.Maps

theorem PW.more {w wr : World} {b last k : Nat} {v m rv : Value} {F R : List Ft} (h : PW w wr b v m rv last k F R) : PW w wr b v m rv last (k + 1) F R :=
  ⟨h.lw, h.rr, h.like, Nat.le_succ_of_le h.le⟩

set_option maxHeartbeats 64000000 in
set_option maxRecDepth 20000 in
theorem plays_walk (ao : Option Addr) (len cap : Nat) (l : List Ac) (w : World) (hl : l.length = len) (wl : IsActs w ao l) (ht : TabW w) : Calls Tryd.prog 3 #[.slice ao len cap] w fun e w' => e = .returned (.bool true) ∧ Below w.heap.size w w' := by
  have hk := known_yes w ht
  by_cases h1 : 100 < len
  · have d1 : decide ((100 : Int) < (len : Int)) = true := decide_eq_true (by omega)
    go_enter Tryd.func3, Tryd.ntmps3
    go_wp2_with (go_at_call 7; refine hk.mono ?_; rintro e w0 ⟨rfl, hb0⟩)
    go_ret
    exact ⟨rfl, hb0⟩
  have d1 : decide ((100 : Int) < (len : Int)) = false := decide_eq_false (by omega)
  have hlb : len ≤ 100 := by omega
  have HLn : Hid (l.length = len) := hl
  have HIs : Hid (IsActs w ao l) := wl
  clear h1 hl wl
  go_enter Tryd.func3, Tryd.ntmps3
  go_wp2_with fail
  refine hk.mono ?_
  rintro e w0 ⟨rfl, hb0⟩
  have hnew := lw_new w w0 hb0 ht
  clear hb0 hk
  go_wp2_with fail
  refine hnew.mono ?_
  rintro e w1 ⟨b1, v1, m1, rfl, H1, _⟩
  clear hnew
  have HP1 : Hid (PW w w1 b1 v1 m1 (.slice none 0 0) 0 0 [] []) := ⟨H1, Rw.nil _ _ _, rfl, Nat.le_refl _⟩
  clear H1
  go_wp2_with fail
  go_loopw [3, 4, 5, 6] (fun mv rv nx i wr => ∃ (k last b : Nat) (v m : Value) (ro : Option Addr) (rn rc : Nat) (F R : List Ft), k ≤ len ∧ mv = .pointer (some ⟨b, 0, none⟩) ∧ rv = .slice ro rn rc ∧ nx = .int .i64 ((last + 1 : Nat) : Int) ∧ i = .int .i64 k ∧ Hid (PW w wr b v m (.slice ro rn rc) last k F R)) (fun _ _ _ i _ => len - (intOf i).toNat)
  case atStart => exact ⟨0, 0, b1, v1, m1, none, 0, 0, [], [], Nat.zero_le _, rfl, rfl, rfl, rfl, HP1⟩
  case round =>
    obtain ⟨k, last, b, v, m, ro, rn, rc, F, R, hk, rfl, rfl, rfl, rfl, HP⟩ := hrel
    clear HP1
    obtain ⟨nx, hnx⟩ : ∃ nx, last + 1 = nx := ⟨_, rfl⟩
    have HNx : Hid (last + 1 = nx) := hnx
    rw [hnx]
    clear hnx
    by_cases hlt : k < len
    · have hki : (k : Int) < (len : Int) := by omega
      have hk0 : (0 : Int) ≤ (k : Int) := by omega
      obtain ⟨x, HX⟩ : ∃ x, Hid (l[k]? = some x) := ⟨_, List.getElem?_eq_getElem (by rw [HLn.out]; exact hlt)⟩
      obtain ⟨hxi, cb, co, rfl, c0, c1, c2, c3⟩ := HIs.out k x HX.out
      have HXI : Hid (AcIn w x) := hxi
      have HCs : Hid (∀ w', Below w.heap.size w w' → w'.cell? ⟨cb, co + k * 4, none⟩ = some (.int .i64 x.op) ∧ w'.cell? ⟨cb, co + k * 4 + 1, none⟩ = some (.int .i64 x.id) ∧ w'.cell? ⟨cb, co + k * 4 + 2, none⟩ = some (.string x.t) ∧ w'.cell? ⟨cb, co + k * 4 + 3, none⟩ = some (.slice x.a x.l.length x.c)) :=
        fun w' hb => ⟨keep_cell hb c0, keep_cell hb c1, keep_cell hb c2, keep_cell hb c3⟩
      have HV : Hid (∀ w', Below w.heap.size w w' → IsVals w' x.a x.l) := fun w' hb => hxi.v.next hb
      have HOff : Hid (x.l ≠ [] → ∀ y, x.a = some y → y.block < w.heap.size) := by
        intro hne y hy
        cases hx : x.l with
        | nil => exact absurd hx hne
        | cons v0 l0 =>
          obtain ⟨b', o', e, h, _⟩ := hxi.v 0 v0 (by rw [hx]; rfl)
          rw [hy] at e
          obtain rfl := Option.some.inj e
          exact World.block_lt_of_cell? w _ h
      clear c0 c1 c2 c3 hxi
      obtain ⟨op, id, xt, xl, xn, xa, xc, hxe⟩ : ∃ (op id : Int) (xt : ByteArray) (xl : List Val) (xn : Nat) (xa : Option Addr) (xc : Nat), Hid (x.op = op ∧ x.id = id ∧ x.t = xt ∧ x.l = xl ∧ xl.length = xn ∧ x.a = xa ∧ x.c = xc) := ⟨_, _, _, _, _, _, _, rfl, rfl, rfl, rfl, rfl, rfl, rfl⟩
      rw [hxe.out.1, hxe.out.2.1, hxe.out.2.2.1, hxe.out.2.2.2.1, hxe.out.2.2.2.2.1, hxe.out.2.2.2.2.2.1, hxe.out.2.2.2.2.2.2] at HCs
      rw [hxe.out.2.2.2.1, hxe.out.2.2.2.2.2.1] at HV HOff
      have HXl : Hid (xl.length = xn) := hxe.out.2.2.2.2.1
      have HXw : Hid (∀ v ∈ xl, v.wide) := by rw [← hxe.out.2.2.2.1]; exact HXI.out.wide
      have HXn : Hid (xa = none → xn = 0 ∧ xc = 0) := by rw [← hxe.out.2.2.2.2.2.1, ← hxe.out.2.2.2.2.1, ← hxe.out.2.2.2.2.2.2, ← hxe.out.2.2.2.1]; exact HXI.out.nil
      obtain ⟨c0, c1, c2, c3⟩ := HCs.out wr HP.out.lw.bel
      obtain ⟨ab, hab⟩ : ∃ ab, wr.heap.size = ab := ⟨_, rfl⟩
      obtain ⟨W1, HW1⟩ : ∃ W1, Hid (wr.alloc (.cells #[.int .i64 op, .int .i64 id, .string xt, .slice xa xn xc] 29) = W1) := ⟨_, rfl⟩
      have HB1 : Hid (Bk W1 ab 29 #[.int .i64 op, .int .i64 id, .string xt, .slice xa xn xc]) := Bk.made' HW1.out hab
      have HBl : Hid (Below wr.heap.size wr W1) := by rw [← HW1.out]; exact alloc_below _ _
      have HP2 : Hid (PW w W1 b v m (.slice ro rn rc) last k F R) := HP.out.next HBl.out
      clear HP HXI
      by_cases hn : 10 < xn
      · have dn : decide ((10 : Int) < (xn : Int)) = true := decide_eq_true (by omega)
        go_wp2_with fail
        rw [HW1.out]
        go_ret
        exact ⟨rfl, HP2.out.lw.bel⟩
      have dn : decide ((10 : Int) < (xn : Int)) = false := decide_eq_false (by omega)
      by_cases hz : 50 < xt.size
      · have dz : decide ((50 : Int) < (xt.size : Int)) = true := decide_eq_true (by omega)
        go_wp2_with fail
        rw [HW1.out]
        go_ret
        exact ⟨rfl, HP2.out.lw.bel⟩
      have dz : decide ((50 : Int) < (xt.size : Int)) = false := decide_eq_false (by omega)
      have hn10 : xn ≤ 10 := by omega
      have hz50 : xt.size ≤ 50 := by omega
      clear hn hz
      go_wp2_with fail
      rw [HW1.out]
      clear dn dz c0 c1 c2 c3
      go_loopw [8] (fun i wq => ∃ j : Nat, j ≤ xn ∧ i = .int .i64 j ∧ Hid (Below W1.heap.size W1 wq) ∧ Hid (∀ q v, q < j → xl[q]? = some v → rightB v.k v.i v.s = true)) (fun i _ => xn - (intOf i).toNat)
      case atStart => exact ⟨0, Nat.zero_le _, rfl, Below.refl _ _, fun q v h => absurd h (by omega)⟩
      case round =>
        obtain ⟨j, hj, rfl, HQ, HRt⟩ := hrel
        have q3 : wr.cell? ⟨ab, 3, none⟩ = some (.slice xa xn xc) := (HB1.out.next HQ.out).cell 3
        by_cases hjl : j < xn
        · have hji : (j : Int) < (xn : Int) := by omega
          have hj0 : (0 : Int) ≤ (j : Int) := by omega
          obtain ⟨y, HY⟩ : ∃ y, Hid (xl[j]? = some y) := ⟨_, List.getElem?_eq_getElem (by rw [HXl.out]; exact hjl)⟩
          obtain ⟨vb, vo, rfl, y0, y1, y2⟩ := HV.out wr (next_trans HP2.out.lw.bel HQ.out) j y HY.out
          have hyw := HXw.out y (List.mem_of_getElem? HY.out)
          obtain ⟨yk, yi, ys, hye⟩ : ∃ yk yi ys, Hid (y.k = yk ∧ y.i = yi ∧ y.s = ys) := ⟨_, _, _, rfl, rfl, rfl⟩
          rw [hye.out.1] at y0
          rw [hye.out.2.1] at y1
          rw [hye.out.2.2] at y2
          obtain ⟨rb, hrb⟩ : ∃ rb, Hid (rightB yk yi ys = rb) := ⟨_, rfl⟩
          have HRy : Hid (∀ w', Calls Tryd.prog 9 #[.agg #[.int .i64 (yk), .int .i64 (yi), .string (ys)]] w' fun e w2 => e = .returned (.bool rb) ∧ Below w'.heap.size w' w2) := by
            intro w'; rw [← hrb.out]
            refine brright_any yk yi ys w' ?_
            rw [← hye.out.2.2]
            have := hyw.2.2
            unfold maxLen at this
            omega
          clear hyw
          cases rb
          · go_wp2_with (go_at_call 9; refine (HRy.out _).mono ?_; rintro e w2 ⟨rfl, hb2⟩)
            go_ret
            exact ⟨rfl, (HP2.out.next (next_trans HQ.out hb2)).lw.bel⟩
          · have HR2 : Hid (∀ q v, q < j + 1 → xl[q]? = some v → rightB v.k v.i v.s = true) := by
              intro q v hq hv
              by_cases e : q = j
              · subst e
                rw [HY.out] at hv
                obtain rfl := Option.some.inj hv
                rw [hye.out.1, hye.out.2.1, hye.out.2.2]
                exact hrb.out
              · exact HRt.out q v (by omega) hv
            go_wp2_with (go_at_call 9; refine (HRy.out _).mono ?_; rintro e w2 ⟨rfl, hb2⟩)
            go_roundw
            case rel => exact ⟨j + 1, by omega, by go_num, next_trans HQ.out hb2, HR2⟩
            case measure => simp [intOf]; omega
        · have hji : ¬ (j : Int) < (xn : Int) := by omega
          have HOk : Hid (∀ v ∈ xl, v.ok) := by
            intro v hv
            obtain ⟨q, hq⟩ := List.getElem?_of_mem hv
            have hql := (List.getElem?_eq_some_iff.1 hq).1
            rw [HXl.out] at hql
            exact right_ok (HRt.out q v (by omega) hq) (HXw.out v hv).2.1
          have HQ2 : Hid (Below W1.heap.size W1 wr) := HQ.out
          clear HRt HXw
          go_wp2_with fail
          clear q3 hji hjl hj
          have hrnb : rn ≤ 100 := by
            have h1 := HP2.out.len
            have h2 := HP2.out.rr.len
            omega
          go_loopw [9, 10] (fun at' i wq => ∃ j : Nat, j ≤ rn ∧ at' = .int .i64 (lastI (hitF op id (keyB xt xl)) R j) ∧ i = .int .i64 j ∧ Hid (Below W1.heap.size W1 wq)) (fun _ i _ => rn - (intOf i).toNat)
          case atStart => exact ⟨0, Nat.zero_le _, rfl, rfl, HQ2⟩
          case round =>
            obtain ⟨j, hj, rfl, rfl, HQ⟩ := hrel
            clear HQ2
            obtain ⟨q0, q1, q2, q3⟩ : wr.cell? ⟨ab, 0, none⟩ = some (.int .i64 op) ∧ wr.cell? ⟨ab, 1, none⟩ = some (.int .i64 id) ∧ wr.cell? ⟨ab, 2, none⟩ = some (.string xt) ∧ wr.cell? ⟨ab, 3, none⟩ = some (.slice xa xn xc) :=
              ⟨(HB1.out.next HQ.out).cell 0, (HB1.out.next HQ.out).cell 1, (HB1.out.next HQ.out).cell 2, (HB1.out.next HQ.out).cell 3⟩
            by_cases hjl : j < rn
            · have hji : (j : Int) < (rn : Int) := by omega
              have hj0 : (0 : Int) ≤ (j : Int) := by omega
              have hrl := HP2.out.rr.len
              obtain ⟨f, HF⟩ : ∃ f, Hid (R[j]? = some f) := ⟨_, List.getElem?_eq_getElem (by rw [← hrl]; exact hjl)⟩
              have HR3 := (HP2.out.next HQ.out).rr
              obtain ⟨g, rfl, r0, r1, r2⟩ := HR3.at HF.out
              have hfv := (HR3.vals f (List.mem_of_getElem? HF.out)).vals
              have hfok := HP2.out.okr f (List.mem_of_getElem? HF.out)
              obtain ⟨fid, ft, fl, fn, fa, fc, hfe⟩ : ∃ (fid : Int) (ft : ByteArray) (fl : List Val) (fn : Nat) (fa : Option Addr) (fc : Nat), Hid ((f.id : Int) = fid ∧ f.t = ft ∧ f.l = fl ∧ fl.length = fn ∧ f.a = fa ∧ f.c = fc) := ⟨_, _, _, _, _, _, rfl, rfl, rfl, rfl, rfl, rfl⟩
              rw [hfe.out.1] at r0
              rw [hfe.out.2.1] at r1
              rw [hfe.out.2.2.1, hfe.out.2.2.2.1, hfe.out.2.2.2.2.1, hfe.out.2.2.2.2.2] at r2
              have HRw : Hid (∀ w', Below wr.heap.size wr w' → Calls Tryd.prog 10 #[.slice fa fn fc, .slice xa xn xc] w' fun e w2 => e = .returned (.bool (rowsB fl xl)) ∧ Below w'.heap.size w' w2) := by
                intro w' hb
                have hv1 := hfv.next hb
                have hv2 := HV.out w' (next_trans (next_trans HP2.out.lw.bel HQ.out) hb)
                rw [hfe.out.2.2.1, hfe.out.2.2.2.2.1] at hv1
                have h50 := hfok.2.1
                rw [hfe.out.2.2.1] at h50
                have h := rows_any fa xa fc xc fl xl w' hv1 hv2 (by omega)
                rw [hfe.out.2.2.2.1, HXl.out] at h
                exact h
              obtain ⟨AT, hAT⟩ : ∃ AT, Hid (lastI (hitF op id (keyB xt xl)) R j = AT) := ⟨_, rfl⟩
              rw [hAT.out]
              clear hrl HR3 hfv hfok
              by_cases e1 : op = 1
              · have o1 : (op == 1) = true := by simp [e1]
                have o2 : (op == 2) = false := by simp [e1]
                by_cases ht1 : ft = xt
                · have tq : (ft.toList == xt.toList) = true := by rw [beq_ba]; exact decide_eq_true ht1
                  by_cases hl1 : fl = xl
                  · have HH : Hid (hitF op id (keyB xt xl) f = true) := by
                      unfold hitF; rw [Hid, if_pos e1]; refine decide_eq_true ?_; unfold Ft.key; rw [hfe.out.2.1, hfe.out.2.2.1, ht1, hl1]
                    rw [rows_yes hl1] at HRw
                    clear e1 ht1 hl1
                    go_wp2_with fail
                    as_aux_lemma =>
                      refine wp_region_held_drew (S := (fun w' => w'.cell? ⟨ab, 0, none⟩ = some (.int .i64 op) ∧ w'.cell? ⟨ab, 1, none⟩ = some (.int .i64 id) ∧ w'.cell? ⟨ab, 2, none⟩ = some (.string xt) ∧ w'.cell? ⟨ab, 3, none⟩ = some (.slice xa xn xc) ∧ w'.cell? ⟨g, j * 3, none⟩ = some (.int .i64 fid) ∧ w'.cell? ⟨g, j * 3 + 1, none⟩ = some (.string ft) ∧ w'.cell? ⟨g, j * 3 + 2, none⟩ = some (.slice fa fn fc))) (by kernel_rfl) ?_ (fun hHeldB => ?_)
                      · exact ⟨q0, q1, q2, q3, r0, r1, r2⟩
                      refine wpAnyH_take (i := 0) (oi := { dst := some 72, op := Op.fieldAddr 29 (Operand.tmp 7) 0, type := 0, pos := "law.go:77", after := #[], guard := none }) (v := ?_) rfl (by kernel_rfl) (by kernel_rfl) (by kernel_rfl) (fun _ _ _ h => h) (Or.inl ⟨by rfl, ?hyB0⟩) (by assumption) ?_
                      case hyB0 => (intro w hSw; (try dsimp only at hSw); go_simp; try with_reducible rfl)
                      (try simp only [Act.put, List.setIfInBounds_toArray, List.set_cons_zero, List.set_cons_succ])
                      refine wpAnyH_take (i := 1) (oi := { dst := some 73, op := Op.load 3 (Operand.tmp 72), type := 3, pos := "law.go:77", after := #[{ on := 0, ground := Ground.data }], guard := none }) (v := ?_) rfl (by kernel_rfl) (by kernel_rfl) (by kernel_rfl) (fun _ _ _ h => h) (Or.inl ⟨by rfl, ?hyB1⟩) (by assumption) ?_
                      case hyB1 => (intro w hSw; (try dsimp only at hSw); go_simp; try with_reducible rfl)
                      (try simp only [Act.put, List.setIfInBounds_toArray, List.set_cons_zero, List.set_cons_succ])
                      refine wpAnyH_take (i := 2) (oi := { dst := some 74, op := Op.binOp BinOp.eql 3 (Operand.tmp 73) (Operand.const (Value.int IntKind.i64 1)) 3, type := 4, pos := "law.go:77", after := #[{ on := 1, ground := Ground.data }], guard := none }) (v := ?_) rfl (by kernel_rfl) (by kernel_rfl) (by kernel_rfl) (fun _ _ _ h => h) (Or.inl ⟨by rfl, ?hyB2⟩) (by assumption) ?_
                      case hyB2 => (intro w hSw; (try dsimp only at hSw); go_simp; try with_reducible rfl)
                      (try simp only [Act.put, List.setIfInBounds_toArray, List.set_cons_zero, List.set_cons_succ])
                      refine wpAnyH_take (i := 3) (oi := { dst := some 75, op := Op.move (Operand.tmp 74), type := 4, pos := "law.go:77", after := #[{ on := 2, ground := Ground.data }], guard := none }) (v := ?_) rfl (by kernel_rfl) (by kernel_rfl) (by kernel_rfl) (fun _ _ _ h => h) (Or.inl ⟨by rfl, ?hyB3⟩) (by assumption) ?_
                      case hyB3 => (intro w hSw; (try dsimp only at hSw); go_simp; try with_reducible rfl)
                      (try simp only [Act.put, List.setIfInBounds_toArray, List.set_cons_zero, List.set_cons_succ])
                      refine wpAnyH_take (i := 4) (oi := { dst := some 76, op := Op.move (Operand.tmp 4), type := 26, pos := "law.go:77", after := #[{ on := 3, ground := Ground.guard }], guard := some (3, true) }) (v := ?_) rfl (by kernel_rfl) (by kernel_rfl) (by kernel_rfl) (fun _ _ _ h => h) (Or.inl ⟨by rfl, ?hyB4⟩) (by assumption) ?_
                      case hyB4 => (intro w hSw; (try dsimp only at hSw); go_simp; try with_reducible rfl)
                      (try simp only [Act.put, List.setIfInBounds_toArray, List.set_cons_zero, List.set_cons_succ])
                      refine wpAnyH_take (i := 5) (oi := { dst := some 77, op := Op.move (Operand.tmp 10), type := 3, pos := "law.go:77", after := #[{ on := 3, ground := Ground.guard }], guard := some (3, true) }) (v := ?_) rfl (by kernel_rfl) (by kernel_rfl) (by kernel_rfl) (fun _ _ _ h => h) (Or.inl ⟨by rfl, ?hyB5⟩) (by assumption) ?_
                      case hyB5 => (intro w hSw; (try dsimp only at hSw); go_simp; try with_reducible rfl)
                      (try simp only [Act.put, List.setIfInBounds_toArray, List.set_cons_zero, List.set_cons_succ])
                      refine wpAnyH_take (i := 6) (oi := { dst := some 78, op := Op.indexAddr 26 (Operand.tmp 76) (Operand.tmp 77), type := 0, pos := "law.go:77", after := #[{ on := 4, ground := Ground.data }, { on := 5, ground := Ground.data }, { on := 3, ground := Ground.guard }], guard := some (3, true) }) (v := ?_) rfl (by kernel_rfl) (by kernel_rfl) (by kernel_rfl) (fun _ _ _ h => h) (Or.inl ⟨by rfl, ?hyB6⟩) (by assumption) ?_
                      case hyB6 => (intro w hSw; (try dsimp only at hSw); go_simp; try with_reducible rfl)
                      (try simp only [Act.put, List.setIfInBounds_toArray, List.set_cons_zero, List.set_cons_succ])
                      refine wpAnyH_take (i := 7) (oi := { dst := some 79, op := Op.fieldAddr 34 (Operand.tmp 78) 1, type := 0, pos := "law.go:77", after := #[{ on := 6, ground := Ground.data }, { on := 3, ground := Ground.guard }], guard := some (3, true) }) (v := ?_) rfl (by kernel_rfl) (by kernel_rfl) (by kernel_rfl) (fun _ _ _ h => h) (Or.inl ⟨by rfl, ?hyB7⟩) (by assumption) ?_
                      case hyB7 => (intro w hSw; (try dsimp only at hSw); go_simp; try with_reducible rfl)
                      (try simp only [Act.put, List.setIfInBounds_toArray, List.set_cons_zero, List.set_cons_succ])
                      refine wpAnyH_take (i := 8) (oi := { dst := some 80, op := Op.load 9 (Operand.tmp 79), type := 9, pos := "law.go:77", after := #[{ on := 7, ground := Ground.data }, { on := 3, ground := Ground.guard }], guard := some (3, true) }) (v := ?_) rfl (by kernel_rfl) (by kernel_rfl) (by kernel_rfl) (fun _ _ _ h => h) (Or.inl ⟨by rfl, ?hyB8⟩) (by assumption) ?_
                      case hyB8 => (intro w hSw; (try dsimp only at hSw); go_simp; try with_reducible rfl)
                      (try simp only [Act.put, List.setIfInBounds_toArray, List.set_cons_zero, List.set_cons_succ])
                      refine wpAnyH_take (i := 9) (oi := { dst := some 81, op := Op.fieldAddr 29 (Operand.tmp 7) 2, type := 0, pos := "law.go:77", after := #[{ on := 3, ground := Ground.guard }], guard := some (3, true) }) (v := ?_) rfl (by kernel_rfl) (by kernel_rfl) (by kernel_rfl) (fun _ _ _ h => h) (Or.inl ⟨by rfl, ?hyB9⟩) (by assumption) ?_
                      case hyB9 => (intro w hSw; (try dsimp only at hSw); go_simp; try with_reducible rfl)
                      (try simp only [Act.put, List.setIfInBounds_toArray, List.set_cons_zero, List.set_cons_succ])
                      refine wpAnyH_take (i := 10) (oi := { dst := some 82, op := Op.load 9 (Operand.tmp 81), type := 9, pos := "law.go:77", after := #[{ on := 9, ground := Ground.data }, { on := 3, ground := Ground.guard }], guard := some (3, true) }) (v := ?_) rfl (by kernel_rfl) (by kernel_rfl) (by kernel_rfl) (fun _ _ _ h => h) (Or.inl ⟨by rfl, ?hyB10⟩) (by assumption) ?_
                      case hyB10 => (intro w hSw; (try dsimp only at hSw); go_simp; try with_reducible rfl)
                      (try simp only [Act.put, List.setIfInBounds_toArray, List.set_cons_zero, List.set_cons_succ])
                      refine wpAnyH_take (i := 11) (oi := { dst := some 83, op := Op.binOp BinOp.eql 9 (Operand.tmp 80) (Operand.tmp 82) 9, type := 4, pos := "law.go:77", after := #[{ on := 8, ground := Ground.data }, { on := 10, ground := Ground.data }, { on := 3, ground := Ground.guard }], guard := some (3, true) }) (v := ?_) rfl (by kernel_rfl) (by kernel_rfl) (by kernel_rfl) (fun _ _ _ h => h) (Or.inl ⟨by rfl, ?hyB11⟩) (by assumption) ?_
                      case hyB11 => (intro w hSw; (try dsimp only at hSw); go_simp; try with_reducible rfl)
                      (try simp only [Act.put, List.setIfInBounds_toArray, List.set_cons_zero, List.set_cons_succ])
                      refine wpAnyH_take (i := 12) (oi := { dst := some 84, op := Op.pick (Operand.tmp 75) (Operand.tmp 83) (Operand.const (Value.bool false)), type := 4, pos := "law.go:77", after := #[{ on := 3, ground := Ground.data }, { on := 11, ground := Ground.data }], guard := none }) (v := ?_) rfl (by kernel_rfl) (by kernel_rfl) (by kernel_rfl) (fun _ _ _ h => h) (Or.inl ⟨by rfl, ?hyB12⟩) (by assumption) ?_
                      case hyB12 => (intro w hSw; (try dsimp only at hSw); go_simp; try with_reducible rfl)
                      (try simp only [Act.put, List.setIfInBounds_toArray, List.set_cons_zero, List.set_cons_succ])
                      refine wpAnyH_take (i := 13) (oi := { dst := some 85, op := Op.move (Operand.tmp 84), type := 4, pos := "law.go:77", after := #[{ on := 12, ground := Ground.data }, { on := 3, ground := Ground.chain }], guard := none }) (v := ?_) rfl (by kernel_rfl) (by kernel_rfl) (by kernel_rfl) (fun _ _ _ h => h) (Or.inl ⟨by rfl, ?hyB13⟩) (by assumption) ?_
                      case hyB13 => (intro w hSw; (try dsimp only at hSw); go_simp; try with_reducible rfl)
                      (try simp only [Act.put, List.setIfInBounds_toArray, List.set_cons_zero, List.set_cons_succ])
                      refine wpAnyH_take (i := 14) (oi := { dst := some 86, op := Op.move (Operand.tmp 4), type := 26, pos := "law.go:77", after := #[{ on := 13, ground := Ground.guard }], guard := some (13, true) }) (v := ?_) rfl (by kernel_rfl) (by kernel_rfl) (by kernel_rfl) (fun _ _ _ h => h) (Or.inl ⟨by rfl, ?hyB14⟩) (by assumption) ?_
                      case hyB14 => (intro w hSw; (try dsimp only at hSw); go_simp; try with_reducible rfl)
                      (try simp only [Act.put, List.setIfInBounds_toArray, List.set_cons_zero, List.set_cons_succ])
                      refine wpAnyH_take (i := 15) (oi := { dst := some 87, op := Op.move (Operand.tmp 10), type := 3, pos := "law.go:77", after := #[{ on := 13, ground := Ground.guard }], guard := some (13, true) }) (v := ?_) rfl (by kernel_rfl) (by kernel_rfl) (by kernel_rfl) (fun _ _ _ h => h) (Or.inl ⟨by rfl, ?hyB15⟩) (by assumption) ?_
                      case hyB15 => (intro w hSw; (try dsimp only at hSw); go_simp; try with_reducible rfl)
                      (try simp only [Act.put, List.setIfInBounds_toArray, List.set_cons_zero, List.set_cons_succ])
                      refine wpAnyH_take (i := 16) (oi := { dst := some 88, op := Op.indexAddr 26 (Operand.tmp 86) (Operand.tmp 87), type := 0, pos := "law.go:77", after := #[{ on := 14, ground := Ground.data }, { on := 15, ground := Ground.data }, { on := 13, ground := Ground.guard }], guard := some (13, true) }) (v := ?_) rfl (by kernel_rfl) (by kernel_rfl) (by kernel_rfl) (fun _ _ _ h => h) (Or.inl ⟨by rfl, ?hyB16⟩) (by assumption) ?_
                      case hyB16 => (intro w hSw; (try dsimp only at hSw); go_simp; try with_reducible rfl)
                      (try simp only [Act.put, List.setIfInBounds_toArray, List.set_cons_zero, List.set_cons_succ])
                      refine wpAnyH_take (i := 17) (oi := { dst := some 89, op := Op.fieldAddr 34 (Operand.tmp 88) 2, type := 0, pos := "law.go:77", after := #[{ on := 16, ground := Ground.data }, { on := 13, ground := Ground.guard }], guard := some (13, true) }) (v := ?_) rfl (by kernel_rfl) (by kernel_rfl) (by kernel_rfl) (fun _ _ _ h => h) (Or.inl ⟨by rfl, ?hyB17⟩) (by assumption) ?_
                      case hyB17 => (intro w hSw; (try dsimp only at hSw); go_simp; try with_reducible rfl)
                      (try simp only [Act.put, List.setIfInBounds_toArray, List.set_cons_zero, List.set_cons_succ])
                      refine wpAnyH_take (i := 18) (oi := { dst := some 90, op := Op.load 27 (Operand.tmp 89), type := 27, pos := "law.go:77", after := #[{ on := 17, ground := Ground.data }, { on := 13, ground := Ground.guard }], guard := some (13, true) }) (v := ?_) rfl (by kernel_rfl) (by kernel_rfl) (by kernel_rfl) (fun _ _ _ h => h) (Or.inl ⟨by rfl, ?hyB18⟩) (by assumption) ?_
                      case hyB18 => (intro w hSw; (try dsimp only at hSw); go_simp; try with_reducible rfl)
                      (try simp only [Act.put, List.setIfInBounds_toArray, List.set_cons_zero, List.set_cons_succ])
                      refine wpAnyH_take (i := 19) (oi := { dst := some 91, op := Op.fieldAddr 29 (Operand.tmp 7) 3, type := 0, pos := "law.go:77", after := #[{ on := 13, ground := Ground.guard }], guard := some (13, true) }) (v := ?_) rfl (by kernel_rfl) (by kernel_rfl) (by kernel_rfl) (fun _ _ _ h => h) (Or.inl ⟨by rfl, ?hyB19⟩) (by assumption) ?_
                      case hyB19 => (intro w hSw; (try dsimp only at hSw); go_simp; try with_reducible rfl)
                      (try simp only [Act.put, List.setIfInBounds_toArray, List.set_cons_zero, List.set_cons_succ])
                      refine wpAnyH_take (i := 20) (oi := { dst := some 92, op := Op.load 27 (Operand.tmp 91), type := 27, pos := "law.go:77", after := #[{ on := 19, ground := Ground.data }, { on := 13, ground := Ground.guard }], guard := some (13, true) }) (v := ?_) rfl (by kernel_rfl) (by kernel_rfl) (by kernel_rfl) (fun _ _ _ h => h) (Or.inl ⟨by rfl, ?hyB20⟩) (by assumption) ?_
                      case hyB20 => (intro w hSw; (try dsimp only at hSw); go_simp; try with_reducible rfl)
                      (try simp only [Act.put, List.setIfInBounds_toArray, List.set_cons_zero, List.set_cons_succ])
                      refine wpAnyH_ready (rs := [21]) (by kernel_rfl) (by simp) ?_
                      refine AllReadyH.cons (o := { dst := some 93, op := Op.call { callee := Callee.value (Operand.func 10), args := #[Operand.tmp 90, Operand.tmp 92], argTypes := #[27, 27] }, type := 4, pos := "law.go:77", after := #[{ on := 18, ground := Ground.data }, { on := 20, ground := Ground.data }, { on := 13, ground := Ground.chain }, { on := 13, ground := Ground.guard }], guard := some (13, true) }) rfl (fun K hK => ?_) AllReadyH.nil
                      go_simp
                      refine (HRw.out _ (Below.refl _ _).drew).mono ?_
                      rintro e w3 ⟨rfl, hb⟩
                      have HW3 : Hid (Below W1.heap.size W1 w3) := next_trans HQ.out (below_undrawn hb)
                      refine hK.out _ _ ?_ (fun hHeldBx => ?_)
                      · obtain ⟨p0, p1, p2, p3, p4, p5, p6⟩ := hHeldB
                        exact ⟨keep_cell hb p0, keep_cell hb p1, keep_cell hb p2, keep_cell hb p3, keep_cell hb p4, keep_cell hb p5, keep_cell hb p6⟩
                      clear hK K hb hHeldB
                      (try simp only [Act.put, List.setIfInBounds_toArray, List.set_cons_zero, List.set_cons_succ])
                      refine wpAnyH_take (i := 22) (oi := { dst := some 94, op := Op.pick (Operand.tmp 85) (Operand.tmp 93) (Operand.const (Value.bool false)), type := 4, pos := "law.go:77", after := #[{ on := 13, ground := Ground.data }, { on := 21, ground := Ground.data }], guard := none }) (v := ?_) rfl (by kernel_rfl) (by kernel_rfl) (by kernel_rfl) (fun _ _ _ h => h) (Or.inl ⟨by rfl, ?hyB22⟩) (by assumption) ?_
                      case hyB22 => (intro w hSw; (try dsimp only at hSw); go_simp; try with_reducible rfl)
                      (try simp only [Act.put, List.setIfInBounds_toArray, List.set_cons_zero, List.set_cons_succ])
                      refine wpAnyH_take (i := 23) (oi := { dst := some 95, op := Op.move (Operand.tmp 94), type := 4, pos := "law.go:77", after := #[{ on := 22, ground := Ground.data }, { on := 21, ground := Ground.chain }], guard := none }) (v := ?_) rfl (by kernel_rfl) (by kernel_rfl) (by kernel_rfl) (fun _ _ _ h => h) (Or.inl ⟨by rfl, ?hyB23⟩) (by assumption) ?_
                      case hyB23 => (intro w hSw; (try dsimp only at hSw); go_simp; try with_reducible rfl)
                      (try simp only [Act.put, List.setIfInBounds_toArray, List.set_cons_zero, List.set_cons_succ])
                      refine wpAnyH_take (i := 24) (oi := { dst := some 96, op := Op.fieldAddr 29 (Operand.tmp 7) 0, type := 0, pos := "law.go:77", after := #[{ on := 23, ground := Ground.guard }], guard := some (23, false) }) (v := undef) rfl (by kernel_rfl) (by kernel_rfl) (by kernel_rfl) (fun _ _ _ h => h) (Or.inr ⟨by rfl, rfl⟩) (by assumption) ?_
                      (try simp only [Act.put, List.setIfInBounds_toArray, List.set_cons_zero, List.set_cons_succ])
                      refine wpAnyH_take (i := 25) (oi := { dst := some 97, op := Op.load 3 (Operand.tmp 96), type := 3, pos := "law.go:77", after := #[{ on := 24, ground := Ground.data }, { on := 23, ground := Ground.guard }], guard := some (23, false) }) (v := undef) rfl (by kernel_rfl) (by kernel_rfl) (by kernel_rfl) (fun _ _ _ h => h) (Or.inr ⟨by rfl, rfl⟩) (by assumption) ?_
                      (try simp only [Act.put, List.setIfInBounds_toArray, List.set_cons_zero, List.set_cons_succ])
                      refine wpAnyH_take (i := 26) (oi := { dst := some 98, op := Op.binOp BinOp.eql 3 (Operand.tmp 97) (Operand.const (Value.int IntKind.i64 2)) 3, type := 4, pos := "law.go:77", after := #[{ on := 25, ground := Ground.data }, { on := 23, ground := Ground.guard }], guard := some (23, false) }) (v := undef) rfl (by kernel_rfl) (by kernel_rfl) (by kernel_rfl) (fun _ _ _ h => h) (Or.inr ⟨by rfl, rfl⟩) (by assumption) ?_
                      (try simp only [Act.put, List.setIfInBounds_toArray, List.set_cons_zero, List.set_cons_succ])
                      refine wpAnyH_take (i := 27) (oi := { dst := some 99, op := Op.move (Operand.tmp 98), type := 4, pos := "law.go:77", after := #[{ on := 26, ground := Ground.data }, { on := 23, ground := Ground.chain }, { on := 23, ground := Ground.guard }], guard := some (23, false) }) (v := undef) rfl (by kernel_rfl) (by kernel_rfl) (by kernel_rfl) (fun _ _ _ h => h) (Or.inr ⟨by rfl, rfl⟩) (by assumption) ?_
                      (try simp only [Act.put, List.setIfInBounds_toArray, List.set_cons_zero, List.set_cons_succ])
                      refine wpAnyH_take (i := 28) (oi := { dst := some 100, op := Op.move (Operand.tmp 4), type := 26, pos := "law.go:77", after := #[{ on := 27, ground := Ground.guard }], guard := some (27, true) }) (v := undef) rfl (by kernel_rfl) (by kernel_rfl) (by kernel_rfl) (fun _ _ _ h => h) (Or.inr ⟨by rfl, rfl⟩) (by assumption) ?_
                      (try simp only [Act.put, List.setIfInBounds_toArray, List.set_cons_zero, List.set_cons_succ])
                      refine wpAnyH_take (i := 29) (oi := { dst := some 101, op := Op.move (Operand.tmp 10), type := 3, pos := "law.go:77", after := #[{ on := 27, ground := Ground.guard }], guard := some (27, true) }) (v := undef) rfl (by kernel_rfl) (by kernel_rfl) (by kernel_rfl) (fun _ _ _ h => h) (Or.inr ⟨by rfl, rfl⟩) (by assumption) ?_
                      (try simp only [Act.put, List.setIfInBounds_toArray, List.set_cons_zero, List.set_cons_succ])
                      refine wpAnyH_take (i := 30) (oi := { dst := some 102, op := Op.indexAddr 26 (Operand.tmp 100) (Operand.tmp 101), type := 0, pos := "law.go:77", after := #[{ on := 28, ground := Ground.data }, { on := 29, ground := Ground.data }, { on := 27, ground := Ground.guard }], guard := some (27, true) }) (v := undef) rfl (by kernel_rfl) (by kernel_rfl) (by kernel_rfl) (fun _ _ _ h => h) (Or.inr ⟨by rfl, rfl⟩) (by assumption) ?_
                      (try simp only [Act.put, List.setIfInBounds_toArray, List.set_cons_zero, List.set_cons_succ])
                      refine wpAnyH_take (i := 31) (oi := { dst := some 103, op := Op.fieldAddr 34 (Operand.tmp 102) 0, type := 0, pos := "law.go:77", after := #[{ on := 30, ground := Ground.data }, { on := 27, ground := Ground.guard }], guard := some (27, true) }) (v := undef) rfl (by kernel_rfl) (by kernel_rfl) (by kernel_rfl) (fun _ _ _ h => h) (Or.inr ⟨by rfl, rfl⟩) (by assumption) ?_
                      (try simp only [Act.put, List.setIfInBounds_toArray, List.set_cons_zero, List.set_cons_succ])
                      refine wpAnyH_take (i := 32) (oi := { dst := some 104, op := Op.load 3 (Operand.tmp 103), type := 3, pos := "law.go:77", after := #[{ on := 31, ground := Ground.data }, { on := 27, ground := Ground.guard }], guard := some (27, true) }) (v := undef) rfl (by kernel_rfl) (by kernel_rfl) (by kernel_rfl) (fun _ _ _ h => h) (Or.inr ⟨by rfl, rfl⟩) (by assumption) ?_
                      (try simp only [Act.put, List.setIfInBounds_toArray, List.set_cons_zero, List.set_cons_succ])
                      refine wpAnyH_take (i := 33) (oi := { dst := some 105, op := Op.fieldAddr 29 (Operand.tmp 7) 1, type := 0, pos := "law.go:77", after := #[{ on := 27, ground := Ground.guard }], guard := some (27, true) }) (v := undef) rfl (by kernel_rfl) (by kernel_rfl) (by kernel_rfl) (fun _ _ _ h => h) (Or.inr ⟨by rfl, rfl⟩) (by assumption) ?_
                      (try simp only [Act.put, List.setIfInBounds_toArray, List.set_cons_zero, List.set_cons_succ])
                      refine wpAnyH_take (i := 34) (oi := { dst := some 106, op := Op.load 3 (Operand.tmp 105), type := 3, pos := "law.go:77", after := #[{ on := 33, ground := Ground.data }, { on := 27, ground := Ground.guard }], guard := some (27, true) }) (v := undef) rfl (by kernel_rfl) (by kernel_rfl) (by kernel_rfl) (fun _ _ _ h => h) (Or.inr ⟨by rfl, rfl⟩) (by assumption) ?_
                      (try simp only [Act.put, List.setIfInBounds_toArray, List.set_cons_zero, List.set_cons_succ])
                      refine wpAnyH_take (i := 35) (oi := { dst := some 107, op := Op.binOp BinOp.eql 3 (Operand.tmp 104) (Operand.tmp 106) 3, type := 4, pos := "law.go:77", after := #[{ on := 32, ground := Ground.data }, { on := 34, ground := Ground.data }, { on := 27, ground := Ground.guard }], guard := some (27, true) }) (v := undef) rfl (by kernel_rfl) (by kernel_rfl) (by kernel_rfl) (fun _ _ _ h => h) (Or.inr ⟨by rfl, rfl⟩) (by assumption) ?_
                      (try simp only [Act.put, List.setIfInBounds_toArray, List.set_cons_zero, List.set_cons_succ])
                      refine wpAnyH_take (i := 36) (oi := { dst := some 108, op := Op.pick (Operand.tmp 99) (Operand.tmp 107) (Operand.const (Value.bool false)), type := 4, pos := "law.go:77", after := #[{ on := 27, ground := Ground.data }, { on := 35, ground := Ground.data }, { on := 23, ground := Ground.guard }], guard := some (23, false) }) (v := undef) rfl (by kernel_rfl) (by kernel_rfl) (by kernel_rfl) (fun _ _ _ h => h) (Or.inr ⟨by rfl, rfl⟩) (by assumption) ?_
                      (try simp only [Act.put, List.setIfInBounds_toArray, List.set_cons_zero, List.set_cons_succ])
                      refine wpAnyH_take (i := 37) (oi := { dst := some 109, op := Op.pick (Operand.tmp 95) (Operand.const (Value.bool true)) (Operand.tmp 108), type := 4, pos := "law.go:77", after := #[{ on := 23, ground := Ground.data }, { on := 36, ground := Ground.data }], guard := none }) (v := ?_) rfl (by kernel_rfl) (by kernel_rfl) (by kernel_rfl) (fun _ _ _ h => h) (Or.inl ⟨by rfl, ?hyB37⟩) (by assumption) ?_
                      case hyB37 => (intro w hSw; (try dsimp only at hSw); go_simp; try with_reducible rfl)
                      (try simp only [Act.put, List.setIfInBounds_toArray, List.set_cons_zero, List.set_cons_succ])
                      refine wpAnyH_done (by kernel_rfl) ?_ _
                      go_wp2_with fail
                      go_roundw
                      case rel => exact ⟨j + 1, by omega, by rw [lastI_yes HF.out HH.out], by go_num, HW3⟩
                      case measure => simp [intOf]; omega
                  · have HH : Hid (hitF op id (keyB xt xl) f = false) := by
                      unfold hitF; rw [Hid, if_pos e1]; refine decide_eq_false ?_; unfold Ft.key; rw [hfe.out.2.1, hfe.out.2.2.1]; exact fun e => hl1 (keyB_inj e).2
                    rw [rows_no hl1] at HRw
                    clear e1 ht1 hl1
                    go_wp2_with fail
                    as_aux_lemma =>
                      refine wp_region_held_drew (S := (fun w' => w'.cell? ⟨ab, 0, none⟩ = some (.int .i64 op) ∧ w'.cell? ⟨ab, 1, none⟩ = some (.int .i64 id) ∧ w'.cell? ⟨ab, 2, none⟩ = some (.string xt) ∧ w'.cell? ⟨ab, 3, none⟩ = some (.slice xa xn xc) ∧ w'.cell? ⟨g, j * 3, none⟩ = some (.int .i64 fid) ∧ w'.cell? ⟨g, j * 3 + 1, none⟩ = some (.string ft) ∧ w'.cell? ⟨g, j * 3 + 2, none⟩ = some (.slice fa fn fc))) (by kernel_rfl) ?_ (fun hHeldC => ?_)
                      · exact ⟨q0, q1, q2, q3, r0, r1, r2⟩
                      refine wpAnyH_take (i := 0) (oi := { dst := some 72, op := Op.fieldAddr 29 (Operand.tmp 7) 0, type := 0, pos := "law.go:77", after := #[], guard := none }) (v := ?_) rfl (by kernel_rfl) (by kernel_rfl) (by kernel_rfl) (fun _ _ _ h => h) (Or.inl ⟨by rfl, ?hyC0⟩) (by assumption) ?_
                      case hyC0 => (intro w hSw; (try dsimp only at hSw); go_simp; try with_reducible rfl)
                      (try simp only [Act.put, List.setIfInBounds_toArray, List.set_cons_zero, List.set_cons_succ])
                      refine wpAnyH_take (i := 1) (oi := { dst := some 73, op := Op.load 3 (Operand.tmp 72), type := 3, pos := "law.go:77", after := #[{ on := 0, ground := Ground.data }], guard := none }) (v := ?_) rfl (by kernel_rfl) (by kernel_rfl) (by kernel_rfl) (fun _ _ _ h => h) (Or.inl ⟨by rfl, ?hyC1⟩) (by assumption) ?_
                      case hyC1 => (intro w hSw; (try dsimp only at hSw); go_simp; try with_reducible rfl)
                      (try simp only [Act.put, List.setIfInBounds_toArray, List.set_cons_zero, List.set_cons_succ])
                      refine wpAnyH_take (i := 2) (oi := { dst := some 74, op := Op.binOp BinOp.eql 3 (Operand.tmp 73) (Operand.const (Value.int IntKind.i64 1)) 3, type := 4, pos := "law.go:77", after := #[{ on := 1, ground := Ground.data }], guard := none }) (v := ?_) rfl (by kernel_rfl) (by kernel_rfl) (by kernel_rfl) (fun _ _ _ h => h) (Or.inl ⟨by rfl, ?hyC2⟩) (by assumption) ?_
                      case hyC2 => (intro w hSw; (try dsimp only at hSw); go_simp; try with_reducible rfl)
                      (try simp only [Act.put, List.setIfInBounds_toArray, List.set_cons_zero, List.set_cons_succ])
                      refine wpAnyH_take (i := 3) (oi := { dst := some 75, op := Op.move (Operand.tmp 74), type := 4, pos := "law.go:77", after := #[{ on := 2, ground := Ground.data }], guard := none }) (v := ?_) rfl (by kernel_rfl) (by kernel_rfl) (by kernel_rfl) (fun _ _ _ h => h) (Or.inl ⟨by rfl, ?hyC3⟩) (by assumption) ?_
                      case hyC3 => (intro w hSw; (try dsimp only at hSw); go_simp; try with_reducible rfl)
                      (try simp only [Act.put, List.setIfInBounds_toArray, List.set_cons_zero, List.set_cons_succ])
                      refine wpAnyH_take (i := 4) (oi := { dst := some 76, op := Op.move (Operand.tmp 4), type := 26, pos := "law.go:77", after := #[{ on := 3, ground := Ground.guard }], guard := some (3, true) }) (v := ?_) rfl (by kernel_rfl) (by kernel_rfl) (by kernel_rfl) (fun _ _ _ h => h) (Or.inl ⟨by rfl, ?hyC4⟩) (by assumption) ?_
                      case hyC4 => (intro w hSw; (try dsimp only at hSw); go_simp; try with_reducible rfl)
                      (try simp only [Act.put, List.setIfInBounds_toArray, List.set_cons_zero, List.set_cons_succ])
                      refine wpAnyH_take (i := 5) (oi := { dst := some 77, op := Op.move (Operand.tmp 10), type := 3, pos := "law.go:77", after := #[{ on := 3, ground := Ground.guard }], guard := some (3, true) }) (v := ?_) rfl (by kernel_rfl) (by kernel_rfl) (by kernel_rfl) (fun _ _ _ h => h) (Or.inl ⟨by rfl, ?hyC5⟩) (by assumption) ?_
                      case hyC5 => (intro w hSw; (try dsimp only at hSw); go_simp; try with_reducible rfl)
                      (try simp only [Act.put, List.setIfInBounds_toArray, List.set_cons_zero, List.set_cons_succ])
                      refine wpAnyH_take (i := 6) (oi := { dst := some 78, op := Op.indexAddr 26 (Operand.tmp 76) (Operand.tmp 77), type := 0, pos := "law.go:77", after := #[{ on := 4, ground := Ground.data }, { on := 5, ground := Ground.data }, { on := 3, ground := Ground.guard }], guard := some (3, true) }) (v := ?_) rfl (by kernel_rfl) (by kernel_rfl) (by kernel_rfl) (fun _ _ _ h => h) (Or.inl ⟨by rfl, ?hyC6⟩) (by assumption) ?_
                      case hyC6 => (intro w hSw; (try dsimp only at hSw); go_simp; try with_reducible rfl)
                      (try simp only [Act.put, List.setIfInBounds_toArray, List.set_cons_zero, List.set_cons_succ])
                      refine wpAnyH_take (i := 7) (oi := { dst := some 79, op := Op.fieldAddr 34 (Operand.tmp 78) 1, type := 0, pos := "law.go:77", after := #[{ on := 6, ground := Ground.data }, { on := 3, ground := Ground.guard }], guard := some (3, true) }) (v := ?_) rfl (by kernel_rfl) (by kernel_rfl) (by kernel_rfl) (fun _ _ _ h => h) (Or.inl ⟨by rfl, ?hyC7⟩) (by assumption) ?_
                      case hyC7 => (intro w hSw; (try dsimp only at hSw); go_simp; try with_reducible rfl)
                      (try simp only [Act.put, List.setIfInBounds_toArray, List.set_cons_zero, List.set_cons_succ])
                      refine wpAnyH_take (i := 8) (oi := { dst := some 80, op := Op.load 9 (Operand.tmp 79), type := 9, pos := "law.go:77", after := #[{ on := 7, ground := Ground.data }, { on := 3, ground := Ground.guard }], guard := some (3, true) }) (v := ?_) rfl (by kernel_rfl) (by kernel_rfl) (by kernel_rfl) (fun _ _ _ h => h) (Or.inl ⟨by rfl, ?hyC8⟩) (by assumption) ?_
                      case hyC8 => (intro w hSw; (try dsimp only at hSw); go_simp; try with_reducible rfl)
                      (try simp only [Act.put, List.setIfInBounds_toArray, List.set_cons_zero, List.set_cons_succ])
                      refine wpAnyH_take (i := 9) (oi := { dst := some 81, op := Op.fieldAddr 29 (Operand.tmp 7) 2, type := 0, pos := "law.go:77", after := #[{ on := 3, ground := Ground.guard }], guard := some (3, true) }) (v := ?_) rfl (by kernel_rfl) (by kernel_rfl) (by kernel_rfl) (fun _ _ _ h => h) (Or.inl ⟨by rfl, ?hyC9⟩) (by assumption) ?_
                      case hyC9 => (intro w hSw; (try dsimp only at hSw); go_simp; try with_reducible rfl)
                      (try simp only [Act.put, List.setIfInBounds_toArray, List.set_cons_zero, List.set_cons_succ])
                      refine wpAnyH_take (i := 10) (oi := { dst := some 82, op := Op.load 9 (Operand.tmp 81), type := 9, pos := "law.go:77", after := #[{ on := 9, ground := Ground.data }, { on := 3, ground := Ground.guard }], guard := some (3, true) }) (v := ?_) rfl (by kernel_rfl) (by kernel_rfl) (by kernel_rfl) (fun _ _ _ h => h) (Or.inl ⟨by rfl, ?hyC10⟩) (by assumption) ?_
                      case hyC10 => (intro w hSw; (try dsimp only at hSw); go_simp; try with_reducible rfl)
                      (try simp only [Act.put, List.setIfInBounds_toArray, List.set_cons_zero, List.set_cons_succ])
                      refine wpAnyH_take (i := 11) (oi := { dst := some 83, op := Op.binOp BinOp.eql 9 (Operand.tmp 80) (Operand.tmp 82) 9, type := 4, pos := "law.go:77", after := #[{ on := 8, ground := Ground.data }, { on := 10, ground := Ground.data }, { on := 3, ground := Ground.guard }], guard := some (3, true) }) (v := ?_) rfl (by kernel_rfl) (by kernel_rfl) (by kernel_rfl) (fun _ _ _ h => h) (Or.inl ⟨by rfl, ?hyC11⟩) (by assumption) ?_
                      case hyC11 => (intro w hSw; (try dsimp only at hSw); go_simp; try with_reducible rfl)
                      (try simp only [Act.put, List.setIfInBounds_toArray, List.set_cons_zero, List.set_cons_succ])
                      refine wpAnyH_take (i := 12) (oi := { dst := some 84, op := Op.pick (Operand.tmp 75) (Operand.tmp 83) (Operand.const (Value.bool false)), type := 4, pos := "law.go:77", after := #[{ on := 3, ground := Ground.data }, { on := 11, ground := Ground.data }], guard := none }) (v := ?_) rfl (by kernel_rfl) (by kernel_rfl) (by kernel_rfl) (fun _ _ _ h => h) (Or.inl ⟨by rfl, ?hyC12⟩) (by assumption) ?_
                      case hyC12 => (intro w hSw; (try dsimp only at hSw); go_simp; try with_reducible rfl)
                      (try simp only [Act.put, List.setIfInBounds_toArray, List.set_cons_zero, List.set_cons_succ])
                      refine wpAnyH_take (i := 13) (oi := { dst := some 85, op := Op.move (Operand.tmp 84), type := 4, pos := "law.go:77", after := #[{ on := 12, ground := Ground.data }, { on := 3, ground := Ground.chain }], guard := none }) (v := ?_) rfl (by kernel_rfl) (by kernel_rfl) (by kernel_rfl) (fun _ _ _ h => h) (Or.inl ⟨by rfl, ?hyC13⟩) (by assumption) ?_
                      case hyC13 => (intro w hSw; (try dsimp only at hSw); go_simp; try with_reducible rfl)
                      (try simp only [Act.put, List.setIfInBounds_toArray, List.set_cons_zero, List.set_cons_succ])
                      refine wpAnyH_take (i := 14) (oi := { dst := some 86, op := Op.move (Operand.tmp 4), type := 26, pos := "law.go:77", after := #[{ on := 13, ground := Ground.guard }], guard := some (13, true) }) (v := ?_) rfl (by kernel_rfl) (by kernel_rfl) (by kernel_rfl) (fun _ _ _ h => h) (Or.inl ⟨by rfl, ?hyC14⟩) (by assumption) ?_
                      case hyC14 => (intro w hSw; (try dsimp only at hSw); go_simp; try with_reducible rfl)
                      (try simp only [Act.put, List.setIfInBounds_toArray, List.set_cons_zero, List.set_cons_succ])
                      refine wpAnyH_take (i := 15) (oi := { dst := some 87, op := Op.move (Operand.tmp 10), type := 3, pos := "law.go:77", after := #[{ on := 13, ground := Ground.guard }], guard := some (13, true) }) (v := ?_) rfl (by kernel_rfl) (by kernel_rfl) (by kernel_rfl) (fun _ _ _ h => h) (Or.inl ⟨by rfl, ?hyC15⟩) (by assumption) ?_
                      case hyC15 => (intro w hSw; (try dsimp only at hSw); go_simp; try with_reducible rfl)
                      (try simp only [Act.put, List.setIfInBounds_toArray, List.set_cons_zero, List.set_cons_succ])
                      refine wpAnyH_take (i := 16) (oi := { dst := some 88, op := Op.indexAddr 26 (Operand.tmp 86) (Operand.tmp 87), type := 0, pos := "law.go:77", after := #[{ on := 14, ground := Ground.data }, { on := 15, ground := Ground.data }, { on := 13, ground := Ground.guard }], guard := some (13, true) }) (v := ?_) rfl (by kernel_rfl) (by kernel_rfl) (by kernel_rfl) (fun _ _ _ h => h) (Or.inl ⟨by rfl, ?hyC16⟩) (by assumption) ?_
                      case hyC16 => (intro w hSw; (try dsimp only at hSw); go_simp; try with_reducible rfl)
                      (try simp only [Act.put, List.setIfInBounds_toArray, List.set_cons_zero, List.set_cons_succ])
                      refine wpAnyH_take (i := 17) (oi := { dst := some 89, op := Op.fieldAddr 34 (Operand.tmp 88) 2, type := 0, pos := "law.go:77", after := #[{ on := 16, ground := Ground.data }, { on := 13, ground := Ground.guard }], guard := some (13, true) }) (v := ?_) rfl (by kernel_rfl) (by kernel_rfl) (by kernel_rfl) (fun _ _ _ h => h) (Or.inl ⟨by rfl, ?hyC17⟩) (by assumption) ?_
                      case hyC17 => (intro w hSw; (try dsimp only at hSw); go_simp; try with_reducible rfl)
                      (try simp only [Act.put, List.setIfInBounds_toArray, List.set_cons_zero, List.set_cons_succ])
                      refine wpAnyH_take (i := 18) (oi := { dst := some 90, op := Op.load 27 (Operand.tmp 89), type := 27, pos := "law.go:77", after := #[{ on := 17, ground := Ground.data }, { on := 13, ground := Ground.guard }], guard := some (13, true) }) (v := ?_) rfl (by kernel_rfl) (by kernel_rfl) (by kernel_rfl) (fun _ _ _ h => h) (Or.inl ⟨by rfl, ?hyC18⟩) (by assumption) ?_
                      case hyC18 => (intro w hSw; (try dsimp only at hSw); go_simp; try with_reducible rfl)
                      (try simp only [Act.put, List.setIfInBounds_toArray, List.set_cons_zero, List.set_cons_succ])
                      refine wpAnyH_take (i := 19) (oi := { dst := some 91, op := Op.fieldAddr 29 (Operand.tmp 7) 3, type := 0, pos := "law.go:77", after := #[{ on := 13, ground := Ground.guard }], guard := some (13, true) }) (v := ?_) rfl (by kernel_rfl) (by kernel_rfl) (by kernel_rfl) (fun _ _ _ h => h) (Or.inl ⟨by rfl, ?hyC19⟩) (by assumption) ?_
                      case hyC19 => (intro w hSw; (try dsimp only at hSw); go_simp; try with_reducible rfl)
                      (try simp only [Act.put, List.setIfInBounds_toArray, List.set_cons_zero, List.set_cons_succ])
                      refine wpAnyH_take (i := 20) (oi := { dst := some 92, op := Op.load 27 (Operand.tmp 91), type := 27, pos := "law.go:77", after := #[{ on := 19, ground := Ground.data }, { on := 13, ground := Ground.guard }], guard := some (13, true) }) (v := ?_) rfl (by kernel_rfl) (by kernel_rfl) (by kernel_rfl) (fun _ _ _ h => h) (Or.inl ⟨by rfl, ?hyC20⟩) (by assumption) ?_
                      case hyC20 => (intro w hSw; (try dsimp only at hSw); go_simp; try with_reducible rfl)
                      (try simp only [Act.put, List.setIfInBounds_toArray, List.set_cons_zero, List.set_cons_succ])
                      refine wpAnyH_ready (rs := [21]) (by kernel_rfl) (by simp) ?_
                      refine AllReadyH.cons (o := { dst := some 93, op := Op.call { callee := Callee.value (Operand.func 10), args := #[Operand.tmp 90, Operand.tmp 92], argTypes := #[27, 27] }, type := 4, pos := "law.go:77", after := #[{ on := 18, ground := Ground.data }, { on := 20, ground := Ground.data }, { on := 13, ground := Ground.chain }, { on := 13, ground := Ground.guard }], guard := some (13, true) }) rfl (fun K hK => ?_) AllReadyH.nil
                      go_simp
                      refine (HRw.out _ (Below.refl _ _).drew).mono ?_
                      rintro e w3 ⟨rfl, hb⟩
                      have HW3 : Hid (Below W1.heap.size W1 w3) := next_trans HQ.out (below_undrawn hb)
                      refine hK.out _ _ ?_ (fun hHeldCx => ?_)
                      · obtain ⟨p0, p1, p2, p3, p4, p5, p6⟩ := hHeldC
                        exact ⟨keep_cell hb p0, keep_cell hb p1, keep_cell hb p2, keep_cell hb p3, keep_cell hb p4, keep_cell hb p5, keep_cell hb p6⟩
                      clear hK K hb hHeldC
                      (try simp only [Act.put, List.setIfInBounds_toArray, List.set_cons_zero, List.set_cons_succ])
                      refine wpAnyH_take (i := 22) (oi := { dst := some 94, op := Op.pick (Operand.tmp 85) (Operand.tmp 93) (Operand.const (Value.bool false)), type := 4, pos := "law.go:77", after := #[{ on := 13, ground := Ground.data }, { on := 21, ground := Ground.data }], guard := none }) (v := ?_) rfl (by kernel_rfl) (by kernel_rfl) (by kernel_rfl) (fun _ _ _ h => h) (Or.inl ⟨by rfl, ?hyC22⟩) (by assumption) ?_
                      case hyC22 => (intro w hSw; (try dsimp only at hSw); go_simp; try with_reducible rfl)
                      (try simp only [Act.put, List.setIfInBounds_toArray, List.set_cons_zero, List.set_cons_succ])
                      refine wpAnyH_take (i := 23) (oi := { dst := some 95, op := Op.move (Operand.tmp 94), type := 4, pos := "law.go:77", after := #[{ on := 22, ground := Ground.data }, { on := 21, ground := Ground.chain }], guard := none }) (v := ?_) rfl (by kernel_rfl) (by kernel_rfl) (by kernel_rfl) (fun _ _ _ h => h) (Or.inl ⟨by rfl, ?hyC23⟩) (by assumption) ?_
                      case hyC23 => (intro w hSw; (try dsimp only at hSw); go_simp; try with_reducible rfl)
                      (try simp only [Act.put, List.setIfInBounds_toArray, List.set_cons_zero, List.set_cons_succ])
                      refine wpAnyH_take (i := 24) (oi := { dst := some 96, op := Op.fieldAddr 29 (Operand.tmp 7) 0, type := 0, pos := "law.go:77", after := #[{ on := 23, ground := Ground.guard }], guard := some (23, false) }) (v := ?_) rfl (by kernel_rfl) (by kernel_rfl) (by kernel_rfl) (fun _ _ _ h => h) (Or.inl ⟨by rfl, ?hyC24⟩) (by assumption) ?_
                      case hyC24 => (intro w hSw; (try dsimp only at hSw); go_simp; try with_reducible rfl)
                      (try simp only [Act.put, List.setIfInBounds_toArray, List.set_cons_zero, List.set_cons_succ])
                      refine wpAnyH_take (i := 25) (oi := { dst := some 97, op := Op.load 3 (Operand.tmp 96), type := 3, pos := "law.go:77", after := #[{ on := 24, ground := Ground.data }, { on := 23, ground := Ground.guard }], guard := some (23, false) }) (v := ?_) rfl (by kernel_rfl) (by kernel_rfl) (by kernel_rfl) (fun _ _ _ h => h) (Or.inl ⟨by rfl, ?hyC25⟩) (by assumption) ?_
                      case hyC25 => (intro w hSw; (try dsimp only at hSw); go_simp; try with_reducible rfl)
                      (try simp only [Act.put, List.setIfInBounds_toArray, List.set_cons_zero, List.set_cons_succ])
                      refine wpAnyH_take (i := 26) (oi := { dst := some 98, op := Op.binOp BinOp.eql 3 (Operand.tmp 97) (Operand.const (Value.int IntKind.i64 2)) 3, type := 4, pos := "law.go:77", after := #[{ on := 25, ground := Ground.data }, { on := 23, ground := Ground.guard }], guard := some (23, false) }) (v := ?_) rfl (by kernel_rfl) (by kernel_rfl) (by kernel_rfl) (fun _ _ _ h => h) (Or.inl ⟨by rfl, ?hyC26⟩) (by assumption) ?_
                      case hyC26 => (intro w hSw; (try dsimp only at hSw); go_simp; try with_reducible rfl)
                      (try simp only [Act.put, List.setIfInBounds_toArray, List.set_cons_zero, List.set_cons_succ])
                      refine wpAnyH_take (i := 27) (oi := { dst := some 99, op := Op.move (Operand.tmp 98), type := 4, pos := "law.go:77", after := #[{ on := 26, ground := Ground.data }, { on := 23, ground := Ground.chain }, { on := 23, ground := Ground.guard }], guard := some (23, false) }) (v := ?_) rfl (by kernel_rfl) (by kernel_rfl) (by kernel_rfl) (fun _ _ _ h => h) (Or.inl ⟨by rfl, ?hyC27⟩) (by assumption) ?_
                      case hyC27 => (intro w hSw; (try dsimp only at hSw); go_simp; try with_reducible rfl)
                      (try simp only [Act.put, List.setIfInBounds_toArray, List.set_cons_zero, List.set_cons_succ])
                      refine wpAnyH_take (i := 28) (oi := { dst := some 100, op := Op.move (Operand.tmp 4), type := 26, pos := "law.go:77", after := #[{ on := 27, ground := Ground.guard }], guard := some (27, true) }) (v := undef) rfl (by kernel_rfl) (by kernel_rfl) (by kernel_rfl) (fun _ _ _ h => h) (Or.inr ⟨by rfl, rfl⟩) (by assumption) ?_
                      (try simp only [Act.put, List.setIfInBounds_toArray, List.set_cons_zero, List.set_cons_succ])
                      refine wpAnyH_take (i := 29) (oi := { dst := some 101, op := Op.move (Operand.tmp 10), type := 3, pos := "law.go:77", after := #[{ on := 27, ground := Ground.guard }], guard := some (27, true) }) (v := undef) rfl (by kernel_rfl) (by kernel_rfl) (by kernel_rfl) (fun _ _ _ h => h) (Or.inr ⟨by rfl, rfl⟩) (by assumption) ?_
                      (try simp only [Act.put, List.setIfInBounds_toArray, List.set_cons_zero, List.set_cons_succ])
                      refine wpAnyH_take (i := 30) (oi := { dst := some 102, op := Op.indexAddr 26 (Operand.tmp 100) (Operand.tmp 101), type := 0, pos := "law.go:77", after := #[{ on := 28, ground := Ground.data }, { on := 29, ground := Ground.data }, { on := 27, ground := Ground.guard }], guard := some (27, true) }) (v := undef) rfl (by kernel_rfl) (by kernel_rfl) (by kernel_rfl) (fun _ _ _ h => h) (Or.inr ⟨by rfl, rfl⟩) (by assumption) ?_
                      (try simp only [Act.put, List.setIfInBounds_toArray, List.set_cons_zero, List.set_cons_succ])
                      refine wpAnyH_take (i := 31) (oi := { dst := some 103, op := Op.fieldAddr 34 (Operand.tmp 102) 0, type := 0, pos := "law.go:77", after := #[{ on := 30, ground := Ground.data }, { on := 27, ground := Ground.guard }], guard := some (27, true) }) (v := undef) rfl (by kernel_rfl) (by kernel_rfl) (by kernel_rfl) (fun _ _ _ h => h) (Or.inr ⟨by rfl, rfl⟩) (by assumption) ?_
                      (try simp only [Act.put, List.setIfInBounds_toArray, List.set_cons_zero, List.set_cons_succ])
                      refine wpAnyH_take (i := 32) (oi := { dst := some 104, op := Op.load 3 (Operand.tmp 103), type := 3, pos := "law.go:77", after := #[{ on := 31, ground := Ground.data }, { on := 27, ground := Ground.guard }], guard := some (27, true) }) (v := undef) rfl (by kernel_rfl) (by kernel_rfl) (by kernel_rfl) (fun _ _ _ h => h) (Or.inr ⟨by rfl, rfl⟩) (by assumption) ?_
                      (try simp only [Act.put, List.setIfInBounds_toArray, List.set_cons_zero, List.set_cons_succ])
                      refine wpAnyH_take (i := 33) (oi := { dst := some 105, op := Op.fieldAddr 29 (Operand.tmp 7) 1, type := 0, pos := "law.go:77", after := #[{ on := 27, ground := Ground.guard }], guard := some (27, true) }) (v := undef) rfl (by kernel_rfl) (by kernel_rfl) (by kernel_rfl) (fun _ _ _ h => h) (Or.inr ⟨by rfl, rfl⟩) (by assumption) ?_
                      (try simp only [Act.put, List.setIfInBounds_toArray, List.set_cons_zero, List.set_cons_succ])
                      refine wpAnyH_take (i := 34) (oi := { dst := some 106, op := Op.load 3 (Operand.tmp 105), type := 3, pos := "law.go:77", after := #[{ on := 33, ground := Ground.data }, { on := 27, ground := Ground.guard }], guard := some (27, true) }) (v := undef) rfl (by kernel_rfl) (by kernel_rfl) (by kernel_rfl) (fun _ _ _ h => h) (Or.inr ⟨by rfl, rfl⟩) (by assumption) ?_
                      (try simp only [Act.put, List.setIfInBounds_toArray, List.set_cons_zero, List.set_cons_succ])
                      refine wpAnyH_take (i := 35) (oi := { dst := some 107, op := Op.binOp BinOp.eql 3 (Operand.tmp 104) (Operand.tmp 106) 3, type := 4, pos := "law.go:77", after := #[{ on := 32, ground := Ground.data }, { on := 34, ground := Ground.data }, { on := 27, ground := Ground.guard }], guard := some (27, true) }) (v := undef) rfl (by kernel_rfl) (by kernel_rfl) (by kernel_rfl) (fun _ _ _ h => h) (Or.inr ⟨by rfl, rfl⟩) (by assumption) ?_
                      (try simp only [Act.put, List.setIfInBounds_toArray, List.set_cons_zero, List.set_cons_succ])
                      refine wpAnyH_take (i := 36) (oi := { dst := some 108, op := Op.pick (Operand.tmp 99) (Operand.tmp 107) (Operand.const (Value.bool false)), type := 4, pos := "law.go:77", after := #[{ on := 27, ground := Ground.data }, { on := 35, ground := Ground.data }, { on := 23, ground := Ground.guard }], guard := some (23, false) }) (v := ?_) rfl (by kernel_rfl) (by kernel_rfl) (by kernel_rfl) (fun _ _ _ h => h) (Or.inl ⟨by rfl, ?hyC36⟩) (by assumption) ?_
                      case hyC36 => (intro w hSw; (try dsimp only at hSw); go_simp; try with_reducible rfl)
                      (try simp only [Act.put, List.setIfInBounds_toArray, List.set_cons_zero, List.set_cons_succ])
                      refine wpAnyH_take (i := 37) (oi := { dst := some 109, op := Op.pick (Operand.tmp 95) (Operand.const (Value.bool true)) (Operand.tmp 108), type := 4, pos := "law.go:77", after := #[{ on := 23, ground := Ground.data }, { on := 36, ground := Ground.data }], guard := none }) (v := ?_) rfl (by kernel_rfl) (by kernel_rfl) (by kernel_rfl) (fun _ _ _ h => h) (Or.inl ⟨by rfl, ?hyC37⟩) (by assumption) ?_
                      case hyC37 => (intro w hSw; (try dsimp only at hSw); go_simp; try with_reducible rfl)
                      (try simp only [Act.put, List.setIfInBounds_toArray, List.set_cons_zero, List.set_cons_succ])
                      refine wpAnyH_done (by kernel_rfl) ?_ _
                      go_wp2_with fail
                      go_roundw
                      case rel => exact ⟨j + 1, by omega, by rw [lastI_no HF.out HH.out, hAT.out], by go_num, HW3⟩
                      case measure => simp [intOf]; omega
                · have tq : (ft.toList == xt.toList) = false := by rw [beq_ba]; exact decide_eq_false ht1
                  have HH : Hid (hitF op id (keyB xt xl) f = false) := by
                    unfold hitF; rw [Hid, if_pos e1]; refine decide_eq_false ?_; unfold Ft.key; rw [hfe.out.2.1]; exact fun e => ht1 (keyB_inj e).1
                  clear e1 ht1
                  as_aux_lemma =>
                    clear HRw
                    go_wp2_with fail
                    go_quiet (fail)
                    go_wp2_with fail
                    go_roundw
                    case rel => exact ⟨j + 1, by omega, by rw [lastI_no HF.out HH.out, hAT.out], by go_num, below_drawn HQ.out _⟩
                    case measure => simp [intOf]; omega
              · have o1 : (op == 1) = false := by simpa using e1
                by_cases e2 : op = 2
                · have o2 : (op == 2) = true := by simp [e2]
                  by_cases hi1 : fid = id
                  · have iq : (fid == id) = true := by simp [hi1]
                    have HH : Hid (hitF op id (keyB xt xl) f = true) := by
                      unfold hitF; rw [Hid, if_neg e1, if_pos e2]; refine decide_eq_true ?_; rw [hfe.out.1, hi1]
                    clear e1 e2 hi1
                    as_aux_lemma =>
                      clear HRw
                      go_wp2_with fail
                      go_quiet (fail)
                      go_wp2_with fail
                      go_roundw
                      case rel => exact ⟨j + 1, by omega, by rw [lastI_yes HF.out HH.out], by go_num, below_drawn HQ.out _⟩
                      case measure => simp [intOf]; omega
                  · have iq : (fid == id) = false := by simpa using hi1
                    have HH : Hid (hitF op id (keyB xt xl) f = false) := by
                      unfold hitF; rw [Hid, if_neg e1, if_pos e2]; refine decide_eq_false ?_; rw [hfe.out.1]; exact hi1
                    clear e1 e2 hi1
                    as_aux_lemma =>
                      clear HRw
                      go_wp2_with fail
                      go_quiet (fail)
                      go_wp2_with fail
                      go_roundw
                      case rel => exact ⟨j + 1, by omega, by rw [lastI_no HF.out HH.out, hAT.out], by go_num, below_drawn HQ.out _⟩
                      case measure => simp [intOf]; omega
                · have o2 : (op == 2) = false := by simpa using e2
                  have HH : Hid (hitF op id (keyB xt xl) f = false) := by
                    unfold hitF; rw [Hid, if_neg e1, if_neg e2]
                  clear e1 e2
                  as_aux_lemma =>
                    clear HRw
                    go_wp2_with fail
                    go_quiet (fail)
                    go_wp2_with fail
                    go_roundw
                    case rel => exact ⟨j + 1, by omega, by rw [lastI_no HF.out HH.out, hAT.out], by go_num, below_drawn HQ.out _⟩
                    case measure => simp [intOf]; omega
            · have hji : ¬ (j : Int) < (rn : Int) := by omega
              have hrl := HP2.out.rr.len
              obtain ⟨AT, hAT⟩ : ∃ AT, Hid (lastI (hitF op id (keyB xt xl)) R j = AT) := ⟨_, rfl⟩
              rw [hAT.out]
              have HAT : Hid (lastI (hitF op id (keyB xt xl)) R R.length = AT) := by
                rw [Hid, ← hrl, show rn = j by omega]; exact hAT.out
              have HP3 : Hid (PW w wr b v m (.slice ro rn rc) last k F R) := HP2.out.next HQ.out
              have HB3 : Hid (Bk wr ab 29 #[.int .i64 op, .int .i64 id, .string xt, .slice xa xn xc]) := HB1.out.next HQ.out
              have HArg : Hid (∀ (w' : World) (P : Nat → Prop), Below w.heap.size w w' → (∀ q, P q → w.heap.size ≤ q) → ArgV w' P xt xa xc xn xl) := fun w' P hb hP => ⟨HXl.out, HV.out w' hb, HXn.out, (fun hne y hy hp => by have h1 := HOff.out hne y hy; have h2 := hP _ hp; omega), by omega, by omega, HOk.out⟩
              have HrL : Hid (rn = R.length) := hrl
              have hk100 : k < 100 := by omega
              go_upto_block 6 with fail
              clear HQ hAT hji hjl hj HP2 HB1 HBl HW1 hrl HCs
              go_cut [3, 4, 5] from 32 to 268 (fun s3 s4 s5 wx => ∃ (last' b' : Nat) (v' m' : Value) (ro' : Option Addr) (rn' rc' : Nat) (F' R' : List Ft), s3 = .pointer (some ⟨b', 0, none⟩) ∧ s4 = .slice ro' rn' rc' ∧ s5 = .int .i64 ((last' + 1 : Nat) : Int) ∧ Hid (PW w wx b' v' m' (.slice ro' rn' rc') last' (k + 1) F' R'))
              case first =>
                by_cases e1 : op = 1
                · have o1 : (op == 1) = true := by simp [e1]
                  rw [e1] at HAT
                  clear e1
                  rcases at_one HP3.out.lw.mem.good HP3.out.like id (keyB xt xl) with ⟨h0, hat⟩ | ⟨p, f, g, hp, hq, hfc, hid, h1, hat⟩
                  · have hatv : AT = -1 := HAT.out.symm.trans hat
                    rw [hatv]
                    clear hatv hat HAT
                    as_aux_lemma =>
                      have A1 := HArg.out wr (Foot b v m) HP3.out.lw.bel (fun q hq => (HP3.out.lw.mem.foot hq).1)
                      have hfind := HP3.out.lw.find A1
                      rw [h0] at hfind
                      have dI : decide ((0 : Nat) ≠ 0) = false := by decide
                      rw [dI] at hfind
                      have hFn : F.length < 1000 := by
                        have h1 := HP3.out.len
                        have h2 := like_len HP3.out.like
                        omega
                      have hla : last < 5000 := by have := HP3.out.le; omega
                      clear A1 dI
                      go_wp2_with fail
                      refine hfind.mono ?_
                      rintro e w2 ⟨rfl, H2, hb2⟩
                      have A2 := HArg.out w2 (Foot b v m) H2.bel (fun q hq => (H2.mem.foot hq).1)
                      have hnew := H2.assert_new A2 h0 hFn hla
                      rw [HNx.out] at hnew
                      have HP4 : Hid (PW w w2 b v m (.slice ro rn rc) last k F R) := HP3.out.next hb2
                      have HB4 : Hid (Bk w2 ab 29 #[.int .i64 op, .int .i64 id, .string xt, .slice xa xn xc]) := HB3.out.next hb2
                      have s2 : w2.cell? ⟨ab, 2, none⟩ = some (.string xt) := HB4.out.cell 2
                      have s3 : w2.cell? ⟨ab, 3, none⟩ = some (.slice xa xn xc) := HB4.out.cell 3
                      clear hfind A2 H2 hb2
                      go_wp2_with fail
                      refine hnew.mono ?_
                      rintro e w3 ⟨rfl, v2, m2, a3, c3, H3, ho3, hs3⟩
                      have HB5 : Hid (Bk w3 ab 29 #[.int .i64 op, .int .i64 id, .string xt, .slice xa xn xc]) := HB4.out.keep (ho3 ab _ HB4.out.kd (by decide) (by decide))
                      have HR3 : Hid (Rw 34 w3 w.heap.size (.slice ro rn rc) R) := ho3.rw HP4.out.rr (by decide) (by decide)
                      have HL3 : Hid (LW w w3 b v2 m2 nx (F ++ [⟨nx, xt, xl, a3, c3⟩])) := H3
                      have HPk : Hid (F.map Ft.fc = R.map Ft.fc ∧ last ≤ k) := ⟨HP4.out.like, HP4.out.le⟩
                      clear hnew s2 s3 H3 ho3 hs3 HP4 HB4 HP3 HB3 h0
                      have s2 : w3.cell? ⟨ab, 2, none⟩ = some (.string xt) := HB5.out.cell 2
                      have s3 : w3.cell? ⟨ab, 3, none⟩ = some (.slice xa xn xc) := HB5.out.cell 3
                      have HVc : Hid (∀ w', Below w3.heap.size w3 w' → IsVals w' xa xl) := fun w' hb => HV.out w' (next_trans HL3.out.bel hb)
                      have HXn3 : Hid (xa = none → xn = 0 ∧ xc = 0) := HXn.out
                      obtain ⟨M, hM⟩ : ∃ M, rn + 1 = M := ⟨_, rfl⟩
                      have HM : Hid (rn + 1 = M) := hM
                      have hMi : (M : Int) - 1 = (rn : Int) := by omega
                      have hMl : (rn : Int) < (M : Int) := by omega
                      have hrn0 : (0 : Int) ≤ (rn : Int) := by omega
                      have hMb : M ≤ 1000 := by omega
                      have hnb : nx ≤ 1000 := by
                        have h1 := HNx.out
                        have h2 := HPk.out.2
                        omega
                      have hn0 : 0 ≤ nx := Nat.zero_le _
                      obtain ⟨i0, hi, hz0, hz1, hz2⟩ := infoRf'
                      have HEn : Hid (∀ v12 a' c' wx, NewW w3 wx → wx.ownsRow w3.heap.size 34 3 v12 M (ftsC R ++ [.int .i64 nx, .string xt, .slice a' xn c']) → ValsAt wx w3.heap.size a' c' xl → PW w wx b v2 m2 v12 nx (k + 1) (F ++ [⟨nx, xt, xl, a3, c3⟩]) (R ++ [⟨nx, xt, xl, a', c'⟩])) := by
                        intro v12 a' c' wx hN ho hva
                        rw [← HM.out] at ho
                        refine ⟨HL3.out.next hN.bel, new_row HR3.out HXl.out hN HL3.out.bel.size ho hva, ?_, ?_⟩
                        · rw [List.map_append, List.map_append, HPk.out.1]; rfl
                        · have h1 := HNx.out
                          have h2 := HPk.out.2
                          omega
                      clear HArg HL3 hM HB5
                      go_wp2_with fail
                      refine wp_region_held_drew (S := (fun w' => w'.cell? ⟨ab, 2, none⟩ = some (.string xt) ∧ w'.cell? ⟨ab, 3, none⟩ = some (.slice xa xn xc))) (by kernel_rfl) ?_ (fun hS0 => ?_)
                      · exact ⟨s2, s3⟩
                      obtain ⟨cw0, hc0⟩ : ∃ c, Hid (w3.drew = c) := ⟨_, rfl⟩
                      have HN0 : Hid (NewW w3 cw0) := by rw [← hc0.out]; exact ⟨(Below.refl _ _).drew⟩
                      rw [hc0.out] at hS0 ⊢
                      clear hc0
                      refine wpAnyH_take (i := 1) (oi := { dst := some 157, op := Op.move (Operand.tmp 4), type := 26, pos := "law.go:89", after := #[], guard := none }) (v := ?_) rfl (by kernel_rfl) (by kernel_rfl) (by kernel_rfl) (fun _ _ _ h => h) (Or.inl ⟨by rfl, ?hyn1⟩) (by assumption) ?_
                      case hyn1 => (intro w hSw; (try dsimp only at hSw); go_simp; try with_reducible rfl)
                      (try simp only [Act.put, List.setIfInBounds_toArray, List.set_cons_zero, List.set_cons_succ])
                      refine wpAnyH_take (i := 3) (oi := { dst := some 159, op := Op.move (Operand.tmp 5), type := 3, pos := "law.go:89", after := #[], guard := none }) (v := ?_) rfl (by kernel_rfl) (by kernel_rfl) (by kernel_rfl) (fun _ _ _ h => h) (Or.inl ⟨by rfl, ?hyn3⟩) (by assumption) ?_
                      case hyn3 => (intro w hSw; (try dsimp only at hSw); go_simp; try with_reducible rfl)
                      (try simp only [Act.put, List.setIfInBounds_toArray, List.set_cons_zero, List.set_cons_succ])
                      refine wpAnyH_take (i := 4) (oi := { dst := some 160, op := Op.fieldAddr 29 (Operand.tmp 7) 2, type := 0, pos := "law.go:89", after := #[], guard := none }) (v := ?_) rfl (by kernel_rfl) (by kernel_rfl) (by kernel_rfl) (fun _ _ _ h => h) (Or.inl ⟨by rfl, ?hyn4⟩) (by assumption) ?_
                      case hyn4 => (intro w hSw; (try dsimp only at hSw); go_simp; try with_reducible rfl)
                      (try simp only [Act.put, List.setIfInBounds_toArray, List.set_cons_zero, List.set_cons_succ])
                      refine wpAnyH_take (i := 5) (oi := { dst := some 161, op := Op.load 9 (Operand.tmp 160), type := 9, pos := "law.go:89", after := #[{ on := 4, ground := Ground.data }], guard := none }) (v := ?_) rfl (by kernel_rfl) (by kernel_rfl) (by kernel_rfl) (fun _ _ _ h => h) (Or.inl ⟨by rfl, ?hyn5⟩) (by assumption) ?_
                      case hyn5 => (intro w hSw; (try dsimp only at hSw); go_simp; try with_reducible rfl)
                      (try simp only [Act.put, List.setIfInBounds_toArray, List.set_cons_zero, List.set_cons_succ])
                      refine wpAnyH_take (i := 7) (oi := { dst := some 163, op := Op.fieldAddr 29 (Operand.tmp 7) 3, type := 0, pos := "law.go:89", after := #[], guard := none }) (v := ?_) rfl (by kernel_rfl) (by kernel_rfl) (by kernel_rfl) (fun _ _ _ h => h) (Or.inl ⟨by rfl, ?hyn7⟩) (by assumption) ?_
                      case hyn7 => (intro w hSw; (try dsimp only at hSw); go_simp; try with_reducible rfl)
                      (try simp only [Act.put, List.setIfInBounds_toArray, List.set_cons_zero, List.set_cons_succ])
                      refine wpAnyH_take (i := 8) (oi := { dst := some 164, op := Op.load 27 (Operand.tmp 163), type := 27, pos := "law.go:89", after := #[{ on := 7, ground := Ground.data }], guard := none }) (v := ?_) rfl (by kernel_rfl) (by kernel_rfl) (by kernel_rfl) (fun _ _ _ h => h) (Or.inl ⟨by rfl, ?hyn8⟩) (by assumption) ?_
                      case hyn8 => (intro w hSw; (try dsimp only at hSw); go_simp; try with_reducible rfl)
                      (try simp only [Act.put, List.setIfInBounds_toArray, List.set_cons_zero, List.set_cons_succ])
                      refine wpAnyH_ready (rs := [0, 6]) (by kernel_rfl) (by simp) ?_
                      refine (AllReadyH.cons (o := { dst := some 156, op := Op.buildSlice 26 0 #[], type := 26, pos := "law.go:89", after := #[], guard := none }) rfl (fun K hK => ?_) (AllReadyH.cons (o := { dst := some 162, op := Op.buildSlice 27 0 #[], type := 27, pos := "law.go:89", after := #[], guard := none }) rfl (fun K hK => ?_) AllReadyH.nil))
                      · go_simp
                        refine hK.out _ _ ?_ (fun hS1 => ?_)
                        · exact ⟨keep_cell (HN0.out.alloc _).bel s2, keep_cell (HN0.out.alloc _).bel s3⟩
                        clear hK K hS0
                        (try simp only [Act.put, List.setIfInBounds_toArray, List.set_cons_zero, List.set_cons_succ])
                        obtain ⟨cw1, hc⟩ : ∃ c, Hid (cw0.alloc (.cells #[] 34) = c) := ⟨_, rfl⟩
                        obtain ⟨g1, hg⟩ : ∃ g, Hid (cw0.heap.size = g) := ⟨_, rfl⟩
                        have HN1 : Hid (NewW w3 cw1) := by rw [← hc.out]; exact HN0.out.alloc _
                        have hA1 : Hid (cw1.ownsRow w3.heap.size 34 3 (.slice (some ⟨g1, 0, none⟩) 0 0) 0 []) := by rw [← hc.out, ← hg.out]; exact HN0.out.made 34 3
                        rw [hc.out] at hS1 ⊢
                        rw [hg.out]
                        clear hc hg HN0
                        refine wpAnyH_ready (rs := [2, 6]) (by kernel_rfl) (by simp) ?_
                        refine (AllReadyH.cons (o := { dst := some 158, op := Op.call { callee := Callee.builtin Builtin.append, args := #[Operand.tmp 156, Operand.tmp 157], argTypes := #[26, 26] }, type := 26, pos := "law.go:89", after := #[{ on := 0, ground := Ground.data }, { on := 1, ground := Ground.data }], guard := none }) rfl (fun K hK => ?_) (AllReadyH.cons (o := { dst := some 162, op := Op.buildSlice 27 0 #[], type := 27, pos := "law.go:89", after := #[], guard := none }) rfl (fun K hK => ?_) AllReadyH.nil))
                        · obtain ⟨vA, cw2, hrun, ho, hg⟩ := append_rfs hA1.out (HR3.out.next HN1.out.bel) (by omega) (by omega) HN1.out.bel.size
                          rw [Nat.zero_add, List.nil_append] at ho
                          have HN2 : Hid (NewW w3 cw2) := HN1.out.grown hA1.out hg
                          have hA2 : Hid (cw2.ownsRow w3.heap.size 34 3 vA rn (ftsC R)) := ho
                          clear ho hg
                          refine step_append_run _ (by rfl) _ _ 26 (by rfl) _ _ _ _ (by rfl) (by rfl) hrun ?_
                          refine hK.out _ _ ?_ (fun hS2 => ?_)
                          · exact ⟨keep_cell (HN2.out).bel s2, keep_cell (HN2.out).bel s3⟩
                          clear hK K hS1
                          (try simp only [Act.put, List.setIfInBounds_toArray, List.set_cons_zero, List.set_cons_succ])
                          clear hrun hA1 HN1
                          refine wpAnyH_ready (rs := [6]) (by kernel_rfl) (by simp) ?_
                          refine (AllReadyH.cons (o := { dst := some 162, op := Op.buildSlice 27 0 #[], type := 27, pos := "law.go:89", after := #[], guard := none }) rfl (fun K hK => ?_) AllReadyH.nil)
                          go_simp
                          refine hK.out _ _ ?_ (fun hS3 => ?_)
                          · exact ⟨keep_cell (HN2.out.alloc _).bel s2, keep_cell (HN2.out.alloc _).bel s3⟩
                          clear hK K hS2
                          (try simp only [Act.put, List.setIfInBounds_toArray, List.set_cons_zero, List.set_cons_succ])
                          obtain ⟨cw3, hc⟩ : ∃ c, Hid (cw2.alloc (.cells #[] 32) = c) := ⟨_, rfl⟩
                          obtain ⟨g3, hg⟩ : ∃ g, Hid (cw2.heap.size = g) := ⟨_, rfl⟩
                          have HN3 : Hid (NewW w3 cw3) := by rw [← hc.out]; exact HN2.out.alloc _
                          have hV3 : Hid (cw3.ownsRow w3.heap.size 32 3 (.slice (some ⟨g3, 0, none⟩) 0 0) 0 []) := by rw [← hc.out, ← hg.out]; exact HN2.out.made 32 3
                          have hA3 : Hid (cw3.ownsRow w3.heap.size 34 3 vA rn (ftsC R)) := by rw [← hc.out]; exact own_next hA2.out (alloc_below cw2 (.cells #[] 32))
                          rw [hc.out] at hS3 ⊢
                          rw [hg.out]
                          clear hc hg HN2 hA2
                          refine wpAnyH_ready (rs := [9]) (by kernel_rfl) (by simp) ?_
                          refine (AllReadyH.cons (o := { dst := some 165, op := Op.call { callee := Callee.builtin Builtin.append, args := #[Operand.tmp 162, Operand.tmp 164], argTypes := #[27, 27] }, type := 27, pos := "law.go:89", after := #[{ on := 6, ground := Ground.data }, { on := 8, ground := Ground.data }, { on := 2, ground := Ground.chain }], guard := none }) rfl (fun K hK => ?_) AllReadyH.nil)
                          obtain ⟨vB, cw4, hrun, ho, hg⟩ := append_vals hV3.out HXl.out (HVc.out _ HN3.out.bel) HXn3.out (by omega) (by omega) HN3.out.bel.size
                          rw [Nat.zero_add, List.nil_append] at ho
                          obtain ⟨a', c', rfl, hva⟩ := ValsAt.own HXl.out ho
                          have HN4 : Hid (NewW w3 cw4) := HN3.out.grown hV3.out hg
                          have hA4 : Hid (cw4.ownsRow w3.heap.size 34 3 vA rn (ftsC R)) := own_other hA3.out hV3.out (by decide) hg
                          have HVa : Hid (ValsAt cw4 w3.heap.size a' c' xl) := hva
                          clear hva
                          clear ho hg
                          refine step_append_run _ (by rfl) _ _ 27 (by rfl) _ _ _ _ (by rfl) (by rfl) hrun ?_
                          refine hK.out _ _ ?_ (fun hS4 => ?_)
                          · exact ⟨keep_cell (HN4.out).bel s2, keep_cell (HN4.out).bel s3⟩
                          clear hK K hS3
                          (try simp only [Act.put, List.setIfInBounds_toArray, List.set_cons_zero, List.set_cons_succ])
                          clear hrun hA3 hV3 HN3
                          refine wpAnyH_take (i := 10) (oi := { dst := some 166, op := Op.build 34 #[(0, Operand.tmp 159), (1, Operand.tmp 161), (2, Operand.tmp 165)], type := 34, pos := "law.go:89", after := #[{ on := 3, ground := Ground.data }, { on := 5, ground := Ground.data }, { on := 9, ground := Ground.data }], guard := none }) (v := ?_) rfl (by kernel_rfl) (by kernel_rfl) (by kernel_rfl) (fun _ _ _ h => h) (Or.inl ⟨by rfl, ?hyp10⟩) (by assumption) ?_
                          case hyp10 => (intro w hSw; (try dsimp only at hSw); go_simp; try with_reducible rfl)
                          (try simp only [Act.put, List.setIfInBounds_toArray, List.set_cons_zero, List.set_cons_succ])
                          refine wpAnyH_ready (rs := [11]) (by kernel_rfl) (by simp) ?_
                          refine (AllReadyH.cons (o := { dst := some 167, op := Op.buildSlice 26 1 #[(0, Operand.tmp 166)], type := 26, pos := "law.go:89", after := #[{ on := 10, ground := Ground.data }], guard := none }) rfl (fun K hK => ?_) AllReadyH.nil)
                          go_simp
                          refine hK.out _ _ ?_ (fun hS5 => ?_)
                          · exact ⟨keep_cell (HN4.out.alloc _).bel s2, keep_cell (HN4.out.alloc _).bel s3⟩
                          clear hK K hS4
                          (try simp only [Act.put, List.setIfInBounds_toArray, List.set_cons_zero, List.set_cons_succ])
                          refine wpAnyH_ready (rs := [12]) (by kernel_rfl) (by simp) ?_
                          refine (AllReadyH.cons (o := { dst := some 168, op := Op.call { callee := Callee.builtin Builtin.append, args := #[Operand.tmp 158, Operand.tmp 167], argTypes := #[26, 26] }, type := 26, pos := "law.go:89", after := #[{ on := 2, ground := Ground.data }, { on := 11, ground := Ground.data }, { on := 9, ground := Ground.chain }], guard := none }) rfl (fun K hK => ?_) AllReadyH.nil)
                          refine step_append_lies _ (by rfl) _ _ _ (by rfl) w3.heap.size 34 i0 (.agg #[.int .i64 0, .string ⟨#[]⟩, .slice none 0 0]) 3 48 Tryd.underlying26 hi hz0 hz1 hz2 rfl (by decide) vA rn (ftsC R) (by rfl) (hA4.out.alloc _) ⟨cw4.heap.size, 0, none⟩ 1 1 [.int .i64 nx, .string xt, .slice a' xn c'] (by rfl) rfl (ft_news cw4 _ rfl _ _ _ _) (ftC_one3 _ _ _ _ _) (by decide) (by unfold maxLen; omega) (by omega) (by simp; have := HN4.out.bel.size; omega) (cw4.heap.size + 1) (by simp) ?_
                          intro g gcap wx hown hgrow hat hlt3
                          have HNx2 : Hid (NewW w3 wx) := (HN4.out.alloc _).grown (hA4.out.alloc _) hgrow
                          have hvx : Hid (ValsAt wx w3.heap.size a' c' xl) := vals_other HVa.out hA4.out (by decide) hgrow
                          refine hK.out _ _ ?_ (fun hS6 => ?_)
                          · exact ⟨keep_cell (HNx2.out).bel s2, keep_cell (HNx2.out).bel s3⟩
                          clear hK K hS5
                          (try simp only [Act.put, List.setIfInBounds_toArray, List.set_cons_zero, List.set_cons_succ])
                          clear hat hlt3 hgrow HVa hA4 HN4
                          refine wpAnyH_take (i := 13) (oi := { dst := some 4, op := Op.assign (Operand.tmp 168), type := 26, pos := "law.go:89", after := #[{ on := 12, ground := Ground.data }, { on := 12, ground := Ground.chain }, { on := 0, ground := Ground.phase }, { on := 1, ground := Ground.phase }, { on := 2, ground := Ground.phase }, { on := 3, ground := Ground.phase }, { on := 4, ground := Ground.phase }, { on := 5, ground := Ground.phase }, { on := 6, ground := Ground.phase }, { on := 7, ground := Ground.phase }, { on := 8, ground := Ground.phase }, { on := 9, ground := Ground.phase }, { on := 10, ground := Ground.phase }, { on := 11, ground := Ground.phase }, { on := 12, ground := Ground.phase }], guard := none }) (v := ?_) rfl (by kernel_rfl) (by kernel_rfl) (by kernel_rfl) (fun _ _ _ h => h) (Or.inl ⟨by rfl, ?hyp13⟩) (by assumption) ?_
                          case hyp13 => (intro w hSw; (try dsimp only at hSw); go_simp; try with_reducible rfl)
                          (try simp only [Act.put, List.setIfInBounds_toArray, List.set_cons_zero, List.set_cons_succ])
                          refine wpAnyH_done (by kernel_rfl) ?_ _
                          rw [HM.out] at hown ⊢
                          have HPx : Hid (PW w wx b v2 m2 (.slice (some ⟨g, 0, none⟩) M gcap) nx (k + 1) (F ++ [⟨nx, xt, xl, a3, c3⟩]) (R ++ [⟨nx, xt, xl, a', c'⟩])) := HEn.out _ a' c' wx HNx2.out hown hvx.out
                          obtain ⟨_, e, r0, _, _⟩ := HPx.out.rr.at (List.getElem?_concat_length (l := R) (a := (⟨nx, xt, xl, a', c'⟩ : Ft)))
                          rw [← HrL.out] at r0
                          injection e with e; injection e with e; subst e
                          clear hown hvx HNx2 hS6
                          go_wp2_with fail
                          go_meet
                          exact ⟨nx, b, v2, m2, _, M, gcap, _, _, rfl, rfl, by go_num, HPx⟩
                        · go_simp
                          refine hK.out _ _ ?_ (fun hS2 => ?_)
                          · exact ⟨keep_cell (HN1.out.alloc _).bel s2, keep_cell (HN1.out.alloc _).bel s3⟩
                          clear hK K hS1
                          (try simp only [Act.put, List.setIfInBounds_toArray, List.set_cons_zero, List.set_cons_succ])
                          obtain ⟨cw2, hc⟩ : ∃ c, Hid (cw1.alloc (.cells #[] 32) = c) := ⟨_, rfl⟩
                          obtain ⟨g2, hg⟩ : ∃ g, Hid (cw1.heap.size = g) := ⟨_, rfl⟩
                          have HN2 : Hid (NewW w3 cw2) := by rw [← hc.out]; exact HN1.out.alloc _
                          have hV2 : Hid (cw2.ownsRow w3.heap.size 32 3 (.slice (some ⟨g2, 0, none⟩) 0 0) 0 []) := by rw [← hc.out, ← hg.out]; exact HN1.out.made 32 3
                          have hA2 : Hid (cw2.ownsRow w3.heap.size 34 3 (.slice (some ⟨g1, 0, none⟩) 0 0) 0 []) := by rw [← hc.out]; exact own_next hA1.out (alloc_below cw1 (.cells #[] 32))
                          rw [hc.out] at hS2 ⊢
                          rw [hg.out]
                          clear hc hg HN1 hA1
                          refine wpAnyH_ready (rs := [2]) (by kernel_rfl) (by simp) ?_
                          refine (AllReadyH.cons (o := { dst := some 158, op := Op.call { callee := Callee.builtin Builtin.append, args := #[Operand.tmp 156, Operand.tmp 157], argTypes := #[26, 26] }, type := 26, pos := "law.go:89", after := #[{ on := 0, ground := Ground.data }, { on := 1, ground := Ground.data }], guard := none }) rfl (fun K hK => ?_) AllReadyH.nil)
                          obtain ⟨vA, cw3, hrun, ho, hg⟩ := append_rfs hA2.out (HR3.out.next HN2.out.bel) (by omega) (by omega) HN2.out.bel.size
                          rw [Nat.zero_add, List.nil_append] at ho
                          have HN3 : Hid (NewW w3 cw3) := HN2.out.grown hA2.out hg
                          have hA3 : Hid (cw3.ownsRow w3.heap.size 34 3 vA rn (ftsC R)) := ho
                          have hV3 : Hid (cw3.ownsRow w3.heap.size 32 3 (.slice (some ⟨g2, 0, none⟩) 0 0) 0 []) := own_other hV2.out hA2.out (by decide) hg
                          clear ho hg
                          refine step_append_run _ (by rfl) _ _ 26 (by rfl) _ _ _ _ (by rfl) (by rfl) hrun ?_
                          refine hK.out _ _ ?_ (fun hS3 => ?_)
                          · exact ⟨keep_cell (HN3.out).bel s2, keep_cell (HN3.out).bel s3⟩
                          clear hK K hS2
                          (try simp only [Act.put, List.setIfInBounds_toArray, List.set_cons_zero, List.set_cons_succ])
                          clear hrun hA2 HN2 hV2
                          refine wpAnyH_ready (rs := [9]) (by kernel_rfl) (by simp) ?_
                          refine (AllReadyH.cons (o := { dst := some 165, op := Op.call { callee := Callee.builtin Builtin.append, args := #[Operand.tmp 162, Operand.tmp 164], argTypes := #[27, 27] }, type := 27, pos := "law.go:89", after := #[{ on := 6, ground := Ground.data }, { on := 8, ground := Ground.data }, { on := 2, ground := Ground.chain }], guard := none }) rfl (fun K hK => ?_) AllReadyH.nil)
                          obtain ⟨vB, cw4, hrun, ho, hg⟩ := append_vals hV3.out HXl.out (HVc.out _ HN3.out.bel) HXn3.out (by omega) (by omega) HN3.out.bel.size
                          rw [Nat.zero_add, List.nil_append] at ho
                          obtain ⟨a', c', rfl, hva⟩ := ValsAt.own HXl.out ho
                          have HN4 : Hid (NewW w3 cw4) := HN3.out.grown hV3.out hg
                          have hA4 : Hid (cw4.ownsRow w3.heap.size 34 3 vA rn (ftsC R)) := own_other hA3.out hV3.out (by decide) hg
                          have HVa : Hid (ValsAt cw4 w3.heap.size a' c' xl) := hva
                          clear hva
                          clear ho hg
                          refine step_append_run _ (by rfl) _ _ 27 (by rfl) _ _ _ _ (by rfl) (by rfl) hrun ?_
                          refine hK.out _ _ ?_ (fun hS4 => ?_)
                          · exact ⟨keep_cell (HN4.out).bel s2, keep_cell (HN4.out).bel s3⟩
                          clear hK K hS3
                          (try simp only [Act.put, List.setIfInBounds_toArray, List.set_cons_zero, List.set_cons_succ])
                          clear hrun hA3 hV3 HN3
                          refine wpAnyH_take (i := 10) (oi := { dst := some 166, op := Op.build 34 #[(0, Operand.tmp 159), (1, Operand.tmp 161), (2, Operand.tmp 165)], type := 34, pos := "law.go:89", after := #[{ on := 3, ground := Ground.data }, { on := 5, ground := Ground.data }, { on := 9, ground := Ground.data }], guard := none }) (v := ?_) rfl (by kernel_rfl) (by kernel_rfl) (by kernel_rfl) (fun _ _ _ h => h) (Or.inl ⟨by rfl, ?hyq10⟩) (by assumption) ?_
                          case hyq10 => (intro w hSw; (try dsimp only at hSw); go_simp; try with_reducible rfl)
                          (try simp only [Act.put, List.setIfInBounds_toArray, List.set_cons_zero, List.set_cons_succ])
                          refine wpAnyH_ready (rs := [11]) (by kernel_rfl) (by simp) ?_
                          refine (AllReadyH.cons (o := { dst := some 167, op := Op.buildSlice 26 1 #[(0, Operand.tmp 166)], type := 26, pos := "law.go:89", after := #[{ on := 10, ground := Ground.data }], guard := none }) rfl (fun K hK => ?_) AllReadyH.nil)
                          go_simp
                          refine hK.out _ _ ?_ (fun hS5 => ?_)
                          · exact ⟨keep_cell (HN4.out.alloc _).bel s2, keep_cell (HN4.out.alloc _).bel s3⟩
                          clear hK K hS4
                          (try simp only [Act.put, List.setIfInBounds_toArray, List.set_cons_zero, List.set_cons_succ])
                          refine wpAnyH_ready (rs := [12]) (by kernel_rfl) (by simp) ?_
                          refine (AllReadyH.cons (o := { dst := some 168, op := Op.call { callee := Callee.builtin Builtin.append, args := #[Operand.tmp 158, Operand.tmp 167], argTypes := #[26, 26] }, type := 26, pos := "law.go:89", after := #[{ on := 2, ground := Ground.data }, { on := 11, ground := Ground.data }, { on := 9, ground := Ground.chain }], guard := none }) rfl (fun K hK => ?_) AllReadyH.nil)
                          refine step_append_lies _ (by rfl) _ _ _ (by rfl) w3.heap.size 34 i0 (.agg #[.int .i64 0, .string ⟨#[]⟩, .slice none 0 0]) 3 48 Tryd.underlying26 hi hz0 hz1 hz2 rfl (by decide) vA rn (ftsC R) (by rfl) (hA4.out.alloc _) ⟨cw4.heap.size, 0, none⟩ 1 1 [.int .i64 nx, .string xt, .slice a' xn c'] (by rfl) rfl (ft_news cw4 _ rfl _ _ _ _) (ftC_one3 _ _ _ _ _) (by decide) (by unfold maxLen; omega) (by omega) (by simp; have := HN4.out.bel.size; omega) (cw4.heap.size + 1) (by simp) ?_
                          intro g gcap wx hown hgrow hat hlt3
                          have HNx2 : Hid (NewW w3 wx) := (HN4.out.alloc _).grown (hA4.out.alloc _) hgrow
                          have hvx : Hid (ValsAt wx w3.heap.size a' c' xl) := vals_other HVa.out hA4.out (by decide) hgrow
                          refine hK.out _ _ ?_ (fun hS6 => ?_)
                          · exact ⟨keep_cell (HNx2.out).bel s2, keep_cell (HNx2.out).bel s3⟩
                          clear hK K hS5
                          (try simp only [Act.put, List.setIfInBounds_toArray, List.set_cons_zero, List.set_cons_succ])
                          clear hat hlt3 hgrow HVa hA4 HN4
                          refine wpAnyH_take (i := 13) (oi := { dst := some 4, op := Op.assign (Operand.tmp 168), type := 26, pos := "law.go:89", after := #[{ on := 12, ground := Ground.data }, { on := 12, ground := Ground.chain }, { on := 0, ground := Ground.phase }, { on := 1, ground := Ground.phase }, { on := 2, ground := Ground.phase }, { on := 3, ground := Ground.phase }, { on := 4, ground := Ground.phase }, { on := 5, ground := Ground.phase }, { on := 6, ground := Ground.phase }, { on := 7, ground := Ground.phase }, { on := 8, ground := Ground.phase }, { on := 9, ground := Ground.phase }, { on := 10, ground := Ground.phase }, { on := 11, ground := Ground.phase }, { on := 12, ground := Ground.phase }], guard := none }) (v := ?_) rfl (by kernel_rfl) (by kernel_rfl) (by kernel_rfl) (fun _ _ _ h => h) (Or.inl ⟨by rfl, ?hyq13⟩) (by assumption) ?_
                          case hyq13 => (intro w hSw; (try dsimp only at hSw); go_simp; try with_reducible rfl)
                          (try simp only [Act.put, List.setIfInBounds_toArray, List.set_cons_zero, List.set_cons_succ])
                          refine wpAnyH_done (by kernel_rfl) ?_ _
                          rw [HM.out] at hown ⊢
                          have HPx : Hid (PW w wx b v2 m2 (.slice (some ⟨g, 0, none⟩) M gcap) nx (k + 1) (F ++ [⟨nx, xt, xl, a3, c3⟩]) (R ++ [⟨nx, xt, xl, a', c'⟩])) := HEn.out _ a' c' wx HNx2.out hown hvx.out
                          obtain ⟨_, e, r0, _, _⟩ := HPx.out.rr.at (List.getElem?_concat_length (l := R) (a := (⟨nx, xt, xl, a', c'⟩ : Ft)))
                          rw [← HrL.out] at r0
                          injection e with e; injection e with e; subst e
                          clear hown hvx HNx2 hS6
                          go_wp2_with fail
                          go_meet
                          exact ⟨nx, b, v2, m2, _, M, gcap, _, _, rfl, rfl, by go_num, HPx⟩
                      · go_simp
                        refine hK.out _ _ ?_ (fun hS1 => ?_)
                        · exact ⟨keep_cell (HN0.out.alloc _).bel s2, keep_cell (HN0.out.alloc _).bel s3⟩
                        clear hK K hS0
                        (try simp only [Act.put, List.setIfInBounds_toArray, List.set_cons_zero, List.set_cons_succ])
                        obtain ⟨cw1, hc⟩ : ∃ c, Hid (cw0.alloc (.cells #[] 32) = c) := ⟨_, rfl⟩
                        obtain ⟨g1, hg⟩ : ∃ g, Hid (cw0.heap.size = g) := ⟨_, rfl⟩
                        have HN1 : Hid (NewW w3 cw1) := by rw [← hc.out]; exact HN0.out.alloc _
                        have hV1 : Hid (cw1.ownsRow w3.heap.size 32 3 (.slice (some ⟨g1, 0, none⟩) 0 0) 0 []) := by rw [← hc.out, ← hg.out]; exact HN0.out.made 32 3
                        rw [hc.out] at hS1 ⊢
                        rw [hg.out]
                        clear hc hg HN0
                        refine wpAnyH_ready (rs := [0]) (by kernel_rfl) (by simp) ?_
                        refine (AllReadyH.cons (o := { dst := some 156, op := Op.buildSlice 26 0 #[], type := 26, pos := "law.go:89", after := #[], guard := none }) rfl (fun K hK => ?_) AllReadyH.nil)
                        go_simp
                        refine hK.out _ _ ?_ (fun hS2 => ?_)
                        · exact ⟨keep_cell (HN1.out.alloc _).bel s2, keep_cell (HN1.out.alloc _).bel s3⟩
                        clear hK K hS1
                        (try simp only [Act.put, List.setIfInBounds_toArray, List.set_cons_zero, List.set_cons_succ])
                        obtain ⟨cw2, hc⟩ : ∃ c, Hid (cw1.alloc (.cells #[] 34) = c) := ⟨_, rfl⟩
                        obtain ⟨g2, hg⟩ : ∃ g, Hid (cw1.heap.size = g) := ⟨_, rfl⟩
                        have HN2 : Hid (NewW w3 cw2) := by rw [← hc.out]; exact HN1.out.alloc _
                        have hA2 : Hid (cw2.ownsRow w3.heap.size 34 3 (.slice (some ⟨g2, 0, none⟩) 0 0) 0 []) := by rw [← hc.out, ← hg.out]; exact HN1.out.made 34 3
                        have hV2 : Hid (cw2.ownsRow w3.heap.size 32 3 (.slice (some ⟨g1, 0, none⟩) 0 0) 0 []) := by rw [← hc.out]; exact own_next hV1.out (alloc_below cw1 (.cells #[] 34))
                        rw [hc.out] at hS2 ⊢
                        rw [hg.out]
                        clear hc hg HN1 hV1
                        refine wpAnyH_ready (rs := [2]) (by kernel_rfl) (by simp) ?_
                        refine (AllReadyH.cons (o := { dst := some 158, op := Op.call { callee := Callee.builtin Builtin.append, args := #[Operand.tmp 156, Operand.tmp 157], argTypes := #[26, 26] }, type := 26, pos := "law.go:89", after := #[{ on := 0, ground := Ground.data }, { on := 1, ground := Ground.data }], guard := none }) rfl (fun K hK => ?_) AllReadyH.nil)
                        obtain ⟨vA, cw3, hrun, ho, hg⟩ := append_rfs hA2.out (HR3.out.next HN2.out.bel) (by omega) (by omega) HN2.out.bel.size
                        rw [Nat.zero_add, List.nil_append] at ho
                        have HN3 : Hid (NewW w3 cw3) := HN2.out.grown hA2.out hg
                        have hA3 : Hid (cw3.ownsRow w3.heap.size 34 3 vA rn (ftsC R)) := ho
                        have hV3 : Hid (cw3.ownsRow w3.heap.size 32 3 (.slice (some ⟨g1, 0, none⟩) 0 0) 0 []) := own_other hV2.out hA2.out (by decide) hg
                        clear ho hg
                        refine step_append_run _ (by rfl) _ _ 26 (by rfl) _ _ _ _ (by rfl) (by rfl) hrun ?_
                        refine hK.out _ _ ?_ (fun hS3 => ?_)
                        · exact ⟨keep_cell (HN3.out).bel s2, keep_cell (HN3.out).bel s3⟩
                        clear hK K hS2
                        (try simp only [Act.put, List.setIfInBounds_toArray, List.set_cons_zero, List.set_cons_succ])
                        clear hrun hA2 HN2 hV2
                        refine wpAnyH_ready (rs := [9]) (by kernel_rfl) (by simp) ?_
                        refine (AllReadyH.cons (o := { dst := some 165, op := Op.call { callee := Callee.builtin Builtin.append, args := #[Operand.tmp 162, Operand.tmp 164], argTypes := #[27, 27] }, type := 27, pos := "law.go:89", after := #[{ on := 6, ground := Ground.data }, { on := 8, ground := Ground.data }, { on := 2, ground := Ground.chain }], guard := none }) rfl (fun K hK => ?_) AllReadyH.nil)
                        obtain ⟨vB, cw4, hrun, ho, hg⟩ := append_vals hV3.out HXl.out (HVc.out _ HN3.out.bel) HXn3.out (by omega) (by omega) HN3.out.bel.size
                        rw [Nat.zero_add, List.nil_append] at ho
                        obtain ⟨a', c', rfl, hva⟩ := ValsAt.own HXl.out ho
                        have HN4 : Hid (NewW w3 cw4) := HN3.out.grown hV3.out hg
                        have hA4 : Hid (cw4.ownsRow w3.heap.size 34 3 vA rn (ftsC R)) := own_other hA3.out hV3.out (by decide) hg
                        have HVa : Hid (ValsAt cw4 w3.heap.size a' c' xl) := hva
                        clear hva
                        clear ho hg
                        refine step_append_run _ (by rfl) _ _ 27 (by rfl) _ _ _ _ (by rfl) (by rfl) hrun ?_
                        refine hK.out _ _ ?_ (fun hS4 => ?_)
                        · exact ⟨keep_cell (HN4.out).bel s2, keep_cell (HN4.out).bel s3⟩
                        clear hK K hS3
                        (try simp only [Act.put, List.setIfInBounds_toArray, List.set_cons_zero, List.set_cons_succ])
                        clear hrun hA3 hV3 HN3
                        refine wpAnyH_take (i := 10) (oi := { dst := some 166, op := Op.build 34 #[(0, Operand.tmp 159), (1, Operand.tmp 161), (2, Operand.tmp 165)], type := 34, pos := "law.go:89", after := #[{ on := 3, ground := Ground.data }, { on := 5, ground := Ground.data }, { on := 9, ground := Ground.data }], guard := none }) (v := ?_) rfl (by kernel_rfl) (by kernel_rfl) (by kernel_rfl) (fun _ _ _ h => h) (Or.inl ⟨by rfl, ?hyr10⟩) (by assumption) ?_
                        case hyr10 => (intro w hSw; (try dsimp only at hSw); go_simp; try with_reducible rfl)
                        (try simp only [Act.put, List.setIfInBounds_toArray, List.set_cons_zero, List.set_cons_succ])
                        refine wpAnyH_ready (rs := [11]) (by kernel_rfl) (by simp) ?_
                        refine (AllReadyH.cons (o := { dst := some 167, op := Op.buildSlice 26 1 #[(0, Operand.tmp 166)], type := 26, pos := "law.go:89", after := #[{ on := 10, ground := Ground.data }], guard := none }) rfl (fun K hK => ?_) AllReadyH.nil)
                        go_simp
                        refine hK.out _ _ ?_ (fun hS5 => ?_)
                        · exact ⟨keep_cell (HN4.out.alloc _).bel s2, keep_cell (HN4.out.alloc _).bel s3⟩
                        clear hK K hS4
                        (try simp only [Act.put, List.setIfInBounds_toArray, List.set_cons_zero, List.set_cons_succ])
                        refine wpAnyH_ready (rs := [12]) (by kernel_rfl) (by simp) ?_
                        refine (AllReadyH.cons (o := { dst := some 168, op := Op.call { callee := Callee.builtin Builtin.append, args := #[Operand.tmp 158, Operand.tmp 167], argTypes := #[26, 26] }, type := 26, pos := "law.go:89", after := #[{ on := 2, ground := Ground.data }, { on := 11, ground := Ground.data }, { on := 9, ground := Ground.chain }], guard := none }) rfl (fun K hK => ?_) AllReadyH.nil)
                        refine step_append_lies _ (by rfl) _ _ _ (by rfl) w3.heap.size 34 i0 (.agg #[.int .i64 0, .string ⟨#[]⟩, .slice none 0 0]) 3 48 Tryd.underlying26 hi hz0 hz1 hz2 rfl (by decide) vA rn (ftsC R) (by rfl) (hA4.out.alloc _) ⟨cw4.heap.size, 0, none⟩ 1 1 [.int .i64 nx, .string xt, .slice a' xn c'] (by rfl) rfl (ft_news cw4 _ rfl _ _ _ _) (ftC_one3 _ _ _ _ _) (by decide) (by unfold maxLen; omega) (by omega) (by simp; have := HN4.out.bel.size; omega) (cw4.heap.size + 1) (by simp) ?_
                        intro g gcap wx hown hgrow hat hlt3
                        have HNx2 : Hid (NewW w3 wx) := (HN4.out.alloc _).grown (hA4.out.alloc _) hgrow
                        have hvx : Hid (ValsAt wx w3.heap.size a' c' xl) := vals_other HVa.out hA4.out (by decide) hgrow
                        refine hK.out _ _ ?_ (fun hS6 => ?_)
                        · exact ⟨keep_cell (HNx2.out).bel s2, keep_cell (HNx2.out).bel s3⟩
                        clear hK K hS5
                        (try simp only [Act.put, List.setIfInBounds_toArray, List.set_cons_zero, List.set_cons_succ])
                        clear hat hlt3 hgrow HVa hA4 HN4
                        refine wpAnyH_take (i := 13) (oi := { dst := some 4, op := Op.assign (Operand.tmp 168), type := 26, pos := "law.go:89", after := #[{ on := 12, ground := Ground.data }, { on := 12, ground := Ground.chain }, { on := 0, ground := Ground.phase }, { on := 1, ground := Ground.phase }, { on := 2, ground := Ground.phase }, { on := 3, ground := Ground.phase }, { on := 4, ground := Ground.phase }, { on := 5, ground := Ground.phase }, { on := 6, ground := Ground.phase }, { on := 7, ground := Ground.phase }, { on := 8, ground := Ground.phase }, { on := 9, ground := Ground.phase }, { on := 10, ground := Ground.phase }, { on := 11, ground := Ground.phase }, { on := 12, ground := Ground.phase }], guard := none }) (v := ?_) rfl (by kernel_rfl) (by kernel_rfl) (by kernel_rfl) (fun _ _ _ h => h) (Or.inl ⟨by rfl, ?hyr13⟩) (by assumption) ?_
                        case hyr13 => (intro w hSw; (try dsimp only at hSw); go_simp; try with_reducible rfl)
                        (try simp only [Act.put, List.setIfInBounds_toArray, List.set_cons_zero, List.set_cons_succ])
                        refine wpAnyH_done (by kernel_rfl) ?_ _
                        rw [HM.out] at hown ⊢
                        have HPx : Hid (PW w wx b v2 m2 (.slice (some ⟨g, 0, none⟩) M gcap) nx (k + 1) (F ++ [⟨nx, xt, xl, a3, c3⟩]) (R ++ [⟨nx, xt, xl, a', c'⟩])) := HEn.out _ a' c' wx HNx2.out hown hvx.out
                        obtain ⟨_, e, r0, _, _⟩ := HPx.out.rr.at (List.getElem?_concat_length (l := R) (a := (⟨nx, xt, xl, a', c'⟩ : Ft)))
                        rw [← HrL.out] at r0
                        injection e with e; injection e with e; subst e
                        clear hown hvx HNx2 hS6
                        go_wp2_with fail
                        go_meet
                        exact ⟨nx, b, v2, m2, _, M, gcap, _, _, rfl, rfl, by go_num, HPx⟩
                  · have hatv : AT = (p : Int) := HAT.out.symm.trans hat
                    rw [hatv]
                    clear hatv hat HAT
                    as_aux_lemma =>
                      have A1 := HArg.out wr (Foot b v m) HP3.out.lw.bel (fun q hq => (HP3.out.lw.mem.foot hq).1)
                      have hfind := HP3.out.lw.find A1
                      obtain ⟨I, hI⟩ : ∃ I, idOf F (keyB xt xl) = I := ⟨_, rfl⟩
                      rw [hI] at hfind hid
                      have hI1 : I ≠ 0 := by omega
                      have dI : decide (I ≠ 0) = true := decide_eq_true hI1
                      rw [dI] at hfind
                      clear A1
                      go_wp2_with fail
                      refine hfind.mono ?_
                      rintro e w2 ⟨rfl, H2, hb2⟩
                      have A2 := HArg.out w2 (Foot b v m) H2.bel (fun q hq => (H2.mem.foot hq).1)
                      have has := H2.assert_has A2 I hI hI1
                      have HP4 : Hid (PW w w2 b v m (.slice ro rn rc) last k F R) := HP3.out.next hb2
                      have HB4 : Hid (Bk w2 ab 29 #[.int .i64 op, .int .i64 id, .string xt, .slice xa xn xc]) := HB3.out.next hb2
                      have s2 : w2.cell? ⟨ab, 2, none⟩ = some (.string xt) := HB4.out.cell 2
                      have s3 : w2.cell? ⟨ab, 3, none⟩ = some (.slice xa xn xc) := HB4.out.cell 3
                      clear hfind A2 H2 hb2
                      go_wp2_with fail
                      refine has.mono ?_
                      rintro e w3 ⟨rfl, H3, hb3⟩
                      have HP5 : Hid (PW w w3 b v m (.slice ro rn rc) last k F R) := HP4.out.next hb3
                      obtain ⟨qb, hqe, r0, _, _⟩ := HP5.out.rr.at hq
                      have hgi : g.id = I := (congrArg Prod.fst hfc).trans hid
                      rw [hgi] at r0
                      subst hqe
                      have hpl : p < rn := by rw [HrL.out]; exact (List.getElem?_eq_some_iff.1 hq).1
                      have hpi : (p : Int) < (rn : Int) := by omega
                      have hp0 : (0 : Int) ≤ (p : Int) := by omega
                      clear has H3 hb3 HP4 HB4 s2 s3 hp hq hfc
                      go_wp2_with fail
                      go_meet
                      exact ⟨last, b, v, m, _, rn, rc, F, R, rfl, rfl, by rw [HNx.out], PW.more HP5.out⟩
                · have o1 : (op == 1) = false := by simpa using e1
                  by_cases e2 : op = 2
                  · have o2 : (op == 2) = true := by simp [e2]
                    rw [e2] at HAT
                    clear e1 e2
                    rcases at_two HP3.out.lw.mem.good HP3.out.like id (keyB xt xl) with ⟨h0, hat⟩ | ⟨p, f, g, hp, hq, hfc, hid, hat⟩
                    · have hatv : AT = -1 := HAT.out.symm.trans hat
                      rw [hatv]
                      clear hatv hat HAT
                      as_aux_lemma =>
                        have hret := HP3.out.lw.retract_no id h0
                        go_wp2_with fail
                        refine hret.mono ?_
                        rintro e w2 ⟨rfl, H2, hb2⟩
                        have HP4 : Hid (PW w w2 b v m (.slice ro rn rc) last k F R) := HP3.out.next hb2
                        clear hret H2 hb2
                        go_wp2_with fail
                        go_meet
                        exact ⟨last, b, v, m, ro, rn, rc, F, R, rfl, rfl, by rw [HNx.out], PW.more HP4.out⟩
                    · have hatv : AT = (p : Int) := HAT.out.symm.trans hat
                      rw [hatv]
                      clear hatv hat HAT
                      have hret := HP3.out.lw.retract_yes hp id hid
                      have hpl : p < rn := by rw [HrL.out]; exact (List.getElem?_eq_some_iff.1 hq).1
                      obtain ⟨qb, hqe, _, _, _⟩ := HP3.out.rr.at hq
                      subst hqe
                      have hrc : rn ≤ rc := by
                        obtain ⟨_, _, e, hh, _⟩ := HP3.out.rr.slice
                        injection e with _ e2 e3
                        omega
                      have hpi0 : (0 : Int) ≤ (p : Int) := by omega
                      go_wp2_with fail
                      refine hret.mono ?_
                      rintro e w2 ⟨rfl, v2, H2, ho2, hs2⟩
                      have HR2 : Hid (Rw 34 w2 w.heap.size (.slice (some ⟨qb, 0, none⟩) rn rc) R) := ho2.rw HP3.out.rr (by decide) (by decide)
                      have HL2 : Hid (LW w w2 b v2 m last (F.eraseIdx p)) := H2
                      have HPk : Hid (F.map Ft.fc = R.map Ft.fc ∧ last ≤ k) := ⟨HP3.out.like, HP3.out.le⟩
                      clear hret H2 ho2 hs2 hp hq hfc hid HP3 HB3 HArg
                      obtain ⟨j1, hj1⟩ : ∃ j1, p + 1 = j1 := ⟨_, rfl⟩
                      have HJ : Hid (p + 1 = j1) := hj1
                      have hji : (p : Int) + 1 = (j1 : Int) := by omega
                      have hj1n : j1 ≤ rn := by omega
                      have hj1c : j1 ≤ rc := by omega
                      have hprc : p ≤ rc := by omega
                      have hprj : p ≤ j1 := by omega
                      have hj10 : (0 : Int) ≤ (j1 : Int) := by omega
                      have hjw : IntKind.i64.wrap (j1 : Int) = (j1 : Int) := by rw [IntKind.wrap_i64]; omega
                      have hj1i : (j1 : Int) ≤ (rn : Int) := by omega
                      have hprn : p ≤ rn := by omega
                      obtain ⟨M, hM⟩ : ∃ M, Hid (rn = M + 1) := ⟨rn - 1, by rw [Hid]; omega⟩
                      have HRL : Hid (R.length = rn) := HrL.out.symm
                      have HE : Hid (∀ v5 w5, Below w2.heap.size w2 w5 → w5.ownsRow w2.heap.size 34 3 v5 (0 + p + (rn - j1)) (([] ++ ftsC (R.take p)) ++ ftsC (R.drop j1)) → ∃ ro' rc', v5 = .slice ro' M rc' ∧ Hid (PW w w5 b v2 m (.slice ro' M rc') last (k + 1) (F.eraseIdx p) (R.eraseIdx p))) := by
                        intro v5 w5 hb ho
                        obtain ⟨ro', rc', e, hw⟩ := erased HR2.out HJ.out HRL.out hM.out hpl (by have := hM.out; have := HJ.out; omega) hb HL2.out.bel.size ho
                        subst e
                        exact ⟨ro', rc', rfl, HL2.out.next hb, hw, like_erase HPk.out.1 p, Nat.le_succ_of_le HPk.out.2⟩
                      have hE0 : Hid (w2.heap.size ≤ (w2.drew.alloc (.cells #[] 34)).heap.size) := (alloc_below w2.drew _).size
                      have hct : Hid (∀ w', Below w2.heap.size w2 w' → (∀ q u, (ftsC (R.take p))[q]? = some u → w'.cell? ((⟨qb, 0, none⟩ : Addr).add q) = some u) ∧ (∀ q u, (ftsC (R.drop j1))[q]? = some u → w'.cell? ((⟨qb, j1 * 3, none⟩ : Addr).add q) = some u)) :=
                        fun w' hb => ⟨cells_take (HR2.out.next hb) p, cells_drop (HR2.out.next hb) j1⟩
                      have hlt1 : Hid ((R.take p).length = p ∧ (R.drop j1).length = rn - j1) := ⟨by rw [List.length_take, HRL.out]; omega, by rw [List.length_drop, HRL.out]⟩
                      clear hj1
                      go_wp2_with fail
                      by_cases hcj : rc = j1
                      · go_region_law (first
                          | (refine step_append_rf _ (by rfl) _ _ (by rfl) w2.heap.size (.slice (some ⟨w2.heap.size, 0, none⟩) 0 0) 0 [] (by rfl) (World.ownsRow_made w2.drew #[] 0 (Nat.le_refl _) (Nat.zero_le _) (by simp)) ⟨qb, 0, none⟩ p rc (R.take p) (by simp [Act.eval, hcj]) hlt1.out.1 (hct.out _ (below_drawn (Below.refl _ _) 1 |>.alloc (Nat.le_refl _) _)).1 (by omega) hE0.out ?_; intro v4 w4 hown4 hgrow4; have hb4 : Below w2.heap.size w2 w4 := ((below_drawn (Below.refl _ w2) 1).alloc (Nat.le_refl _) _).grown hgrow4 hE0.out (by intro q hq; exact Nat.le_of_eq (Option.some.inj hq)))
                          | (refine step_append_rf _ (by rfl) _ _ (by rfl) w2.heap.size v4 (0 + p) ([] ++ ftsC (R.take p)) (by rfl) hown4 ⟨qb, 0, none⟩ (rn - j1) 0 (R.drop j1) (by simp [Act.eval]) hlt1.out.2 (fun q u hq => by have h1 := (List.getElem?_eq_some_iff.1 hq).1; rw [ftsC_len, hlt1.out.2] at h1; omega) (by omega) hb4.size ?_; intro v5 w5 hown5 hgrow5; have hb5 : Below w2.heap.size w2 w5 := hb4.grown hgrow5 hb4.size (fun q hq => (hown4.lt q hq).1)))
                        obtain ⟨ro5, rc5, rfl, HP5⟩ := HE.out v5 w5 hb5 hown5
                        clear hown4 hgrow4 hown5 hgrow5 hb4 hb5
                        go_wp2_with fail
                        go_meet
                        exact ⟨last, b, v2, m, ro5, M, rc5, _, _, rfl, rfl, by rw [HNx.out], HP5⟩
                      · go_region_law (first
                          | (refine step_append_rf _ (by rfl) _ _ (by rfl) w2.heap.size (.slice (some ⟨w2.heap.size, 0, none⟩) 0 0) 0 [] (by rfl) (World.ownsRow_made w2.drew #[] 0 (Nat.le_refl _) (Nat.zero_le _) (by simp)) ⟨qb, 0, none⟩ p rc (R.take p) (by simp [Act.eval]) hlt1.out.1 (hct.out _ (below_drawn (Below.refl _ _) 1 |>.alloc (Nat.le_refl _) _)).1 (by omega) hE0.out ?_; intro v4 w4 hown4 hgrow4; have hb4 : Below w2.heap.size w2 w4 := ((below_drawn (Below.refl _ w2) 1).alloc (Nat.le_refl _) _).grown hgrow4 hE0.out (by intro q hq; exact Nat.le_of_eq (Option.some.inj hq)))
                          | (refine step_append_rf _ (by rfl) _ _ (by rfl) w2.heap.size v4 (0 + p) ([] ++ ftsC (R.take p)) (by rfl) hown4 ⟨qb, j1 * 3, none⟩ (rn - j1) (rc - j1) (R.drop j1) (by simp [Act.eval]) hlt1.out.2 (hct.out _ hb4).2 (by omega) hb4.size ?_; intro v5 w5 hown5 hgrow5; have hb5 : Below w2.heap.size w2 w5 := hb4.grown hgrow5 hb4.size (fun q hq => (hown4.lt q hq).1)))
                        obtain ⟨ro5, rc5, rfl, HP5⟩ := HE.out v5 w5 hb5 hown5
                        clear hown4 hgrow4 hown5 hgrow5 hb4 hb5
                        go_wp2_with fail
                        go_meet
                        exact ⟨last, b, v2, m, ro5, M, rc5, _, _, rfl, rfl, by rw [HNx.out], HP5⟩
                  · have o2 : (op == 2) = false := by simpa using e2
                    clear e1 e2 HAT
                    by_cases e3 : op = 3
                    · have o3 : (op == 3) = true := by simp [e3]
                      clear e3
                      as_aux_lemma =>
                        have htw := twin_any wr w.heap.size b last v m F HP3.out.lw.mem HP3.out.lw.small
                        go_wp2_with fail
                        refine htw.mono ?_
                        rintro e w2 ⟨b2, v2, m2, G, rfl, hm2, hg2, hb2⟩
                        obtain ⟨S0, hS0⟩ : ∃ S0, wr.heap.size = S0 := ⟨_, rfl⟩
                        have HT2 : Hid (TwW w w2 S0 b b2 v m v2 m2 (.slice ro rn rc) last k 0 F G R) := by rw [← hS0]; exact TwW.start HP3.out hm2 hg2 hb2
                        clear hS0
                        clear htw hm2 hg2 hb2 HP3 HB3 HArg
                        go_wp2_with fail
                        go_loopw [17] (fun i wq => ∃ (j : Nat) (v' : Value), j ≤ rn ∧ i = .int .i64 j ∧ Hid (TwW w wq S0 b b2 v' m v2 m2 (.slice ro rn rc) last k j F G R)) (fun i _ => rn - (intOf i).toNat)
                        case atStart => exact ⟨0, v, Nat.zero_le _, rfl, HT2⟩
                        case round =>
                          obtain ⟨j, v', hj, rfl, HT⟩ := hrel
                          clear HT2
                          by_cases hjl : j < rn
                          · have hji : (j : Int) < (rn : Int) := by omega
                            have hj0 : (0 : Int) ≤ (j : Int) := by omega
                            obtain ⟨g, HG⟩ : ∃ g, Hid (R[j]? = some g) := ⟨_, List.getElem?_eq_getElem (by rw [← HrL.out]; exact hjl)⟩
                            obtain ⟨qb, rfl, r0, _, _⟩ := HT.out.rr.at HG.out
                            obtain ⟨gi, hgi⟩ : ∃ gi : Int, Hid ((g.id : Int) = gi) := ⟨_, rfl⟩
                            rw [hgi.out] at r0
                            have hret := HT.out.retract HG.out gi hgi.out
                            go_wp2_with fail
                            refine hret.mono ?_
                            rintro e w3 ⟨rfl, v3, H3⟩
                            have HT3 : Hid (TwW w w3 S0 b b2 v3 m v2 m2 (.slice (some ⟨qb, 0, none⟩) rn rc) last k (j + 1) F G R) := H3
                            clear hret H3 r0
                            go_wp2_with fail
                            go_roundw
                            case rel => exact ⟨j + 1, v3, by omega, by go_num, HT3⟩
                            case measure => simp [intOf]; omega
                          · have hji : ¬ (j : Int) < (rn : Int) := by omega
                            go_wp2_with fail
                            go_meet
                            exact ⟨last, b2, v2, m2, ro, rn, rc, G, R, rfl, rfl, by rw [HNx.out], HT.out.done⟩
                    · have o3 : (op == 3) = false := by simpa using e3
                      by_cases e4 : op = 4
                      · have o4 : (op == 4) = true := by simp [e4]
                        clear e3 e4
                        as_aux_lemma =>
                          have hal := all_any wr w.heap.size b last v m F HP3.out.lw.mem HP3.out.lw.small
                          go_wp2_with fail
                          refine hal.mono ?_
                          rintro e w2 ⟨xv, G, rfl, hR2, hE2, hb2⟩
                          obtain ⟨xo, xcap, rfl, _, _⟩ := hR2.slice
                          have hGn : G.length ≤ 100 := by
                            have h1 := like_len hE2
                            have h2 := like_len HP3.out.like
                            have h3 := HrL.out
                            omega
                          obtain ⟨N, hN⟩ : ∃ N, G.length = N := ⟨_, rfl⟩
                          have HN : Hid (G.length = N) := hN
                          obtain ⟨w0, hw0⟩ : ∃ w0, wr = w0 := ⟨_, rfl⟩
                          have HP0 : Hid (PW w w0 b v m (.slice ro rn rc) last k F R) := by rw [← hw0]; exact HP3.out
                          have HO2 : Hid (OvW w0 w2 (.slice xo N xcap) G) := by
                            rw [← hN, ← hw0]
                            exact ⟨hb2, hR2.row, fun f hf => OvA.of (hR2.vals f hf)⟩
                          have HGl : Hid (∀ f ∈ G, f.l.length ≤ 50) := fun f hf => ((HP3.out.lw.mem.good.like hE2.symm).ok f hf).2.1
                          rw [hN] at hGn ⊢
                          clear hal hR2 hE2 hb2 hN HB3 HArg HP3 hw0
                          go_wp2_with fail
                          go_loopw [19] (fun i wq => ∃ j : Nat, j ≤ N ∧ i = .int .i64 j ∧ Hid (OvW w0 wq (.slice xo N xcap) G)) (fun i _ => N - (intOf i).toNat)
                          case atStart => exact ⟨0, Nat.zero_le _, rfl, HO2⟩
                          case round =>
                            obtain ⟨j, hj, rfl, HO⟩ := hrel
                            clear HO2
                            by_cases hjl : j < N
                            · have hji : (j : Int) < (N : Int) := by omega
                              have hj0 : (0 : Int) ≤ (j : Int) := by omega
                              obtain ⟨f, HF⟩ : ∃ f, Hid (G[j]? = some f) := ⟨_, List.getElem?_eq_getElem (by rw [HN.out]; exact hjl)⟩
                              have hfl := HGl.out f (List.mem_of_getElem? HF.out)
                              obtain ⟨xb, hxe, _, _⟩ := HO.out.at HF.out
                              subst hxe
                              obtain ⟨fn, fa, fc, hfe⟩ : ∃ (fn : Nat) (fa : Option Addr) (fc : Nat), Hid (f.l.length = fn ∧ f.a = fa ∧ f.c = fc) := ⟨_, _, _, rfl, rfl, rfl⟩
                              rw [hfe.out.1] at hfl
                              go_wp2_with fail
                              go_loopw [20] (fun i wq => ∃ q : Nat, q ≤ fn ∧ i = .int .i64 q ∧ Hid (OvW w0 wq (.slice (some ⟨xb, 0, none⟩) N xcap) G)) (fun i _ => fn - (intOf i).toNat)
                              case atStart => exact ⟨0, Nat.zero_le _, rfl, HO⟩
                              case round =>
                                obtain ⟨q, hq, rfl, HQ⟩ := hrel
                                clear HO
                                obtain ⟨xb', hxe, x2, hxk⟩ := HQ.out.at HF.out
                                obtain rfl : xb = xb' := by injection hxe with e; injection e
                                rw [hfe.out.1, hfe.out.2.1, hfe.out.2.2] at x2
                                by_cases hql : q < fn
                                · have hqi : (q : Int) < (fn : Int) := by omega
                                  have hq0 : (0 : Int) ≤ (q : Int) := by omega
                                  have hov := HQ.out.ov f (List.mem_of_getElem? HF.out)
                                  rw [hfe.out.1, hfe.out.2.1] at hov
                                  obtain ⟨vb, vo, rfl, hvb, _, _⟩ := hov q hql
                                  have hne : xb ≠ vb := fun e => by subst e; exact absurd (hxk.uniq hvb.2) (by decide)
                                  have HV3 : Hid (∀ w', Below wr.heap.size wr w' → (∃ u0 u1 u2, w'.cell? ⟨vb, vo + q * 3, none⟩ = some u0 ∧ w'.cell? ⟨vb, vo + q * 3 + 1, none⟩ = some u1 ∧ w'.cell? ⟨vb, vo + q * 3 + 2, none⟩ = some u2) ∧ (∀ j, w'.frozen? ⟨vb, j, none⟩ = false) ∧ Hid (OvW w0 w' (.slice (some ⟨xb, 0, none⟩) N xcap) G) ∧ Hid (w0.heap.size ≤ vb ∧ Kd w' vb 32)) := by
                                    intro w' hb
                                    have H1 := HQ.out.next hb
                                    have h2 := H1.ov f (List.mem_of_getElem? HF.out)
                                    rw [hfe.out.1, hfe.out.2.1] at h2
                                    obtain ⟨vb', vo', e, hk, hf, hc⟩ := h2 q hql
                                    obtain ⟨rfl, rfl⟩ : vb = vb' ∧ vo = vo' := by injection e with e; injection e with e1 e2; exact ⟨e1, e2⟩
                                    obtain ⟨u0, h0⟩ := hc 0 (by decide)
                                    obtain ⟨u1, h1⟩ := hc 1 (by decide)
                                    obtain ⟨u2, h2⟩ := hc 2 (by decide)
                                    exact ⟨⟨u0, u1, u2, h0, h1, h2⟩, hf, H1, hk⟩
                                  clear hvb hov hxk HQ
                                  go_wp2_with fail
                                  go_region_held3 (fun w' => w'.cell? ⟨xb, j * 3 + 2, none⟩ = some (.slice (some ⟨vb, vo, none⟩) fn fc)) (((try dsimp only); first | assumption | exact keep_cell (by assumption) (by assumption) | exact (World.cell?_setCell_other _ _ _ _ (fun h => hne (congrArg Addr.block h).symm)).trans ((World.cell?_setCell_other _ _ _ _ (fun h => hne (congrArg Addr.block h).symm)).trans ((World.cell?_setCell_other _ _ _ _ (fun h => hne (congrArg Addr.block h).symm)).trans x3)))) (first
                                    | (go_at_call 16; refine (rint_any 99 _).mono ?_; rintro e w3 ⟨rfl, hb3⟩; obtain ⟨⟨u0, u1, u2, z0, z1, z2⟩, zf, HO3, HK3⟩ := HV3.out w3 (below_undrawn hb3); have x3 := keep_cell (below_undrawn hb3) x2))
                                  go_wp2_with fail
                                  go_roundw
                                  case rel => exact ⟨q + 1, by omega, by go_num, OvW.set (OvW.set (OvW.set HO3.out HK3.out.1 HK3.out.2 _ _) HK3.out.1 (HK3.out.2.set _ _) _ _) HK3.out.1 ((HK3.out.2.set _ _).set _ _) _ _⟩
                                  case measure => simp [intOf]; omega
                                · have hqi : ¬ (q : Int) < (fn : Int) := by omega
                                  go_wp2_with fail
                                  go_roundw
                                  case rel => exact ⟨j + 1, by omega, by go_num, HQ⟩
                                  case measure => simp [intOf]; omega
                            · have hji : ¬ (j : Int) < (N : Int) := by omega
                              have HP4 : Hid (PW w wr b v m (.slice ro rn rc) last k F R) := HP0.out.next HO.out.bel
                              go_wp2_with fail
                              go_meet
                              exact ⟨last, b, v, m, ro, rn, rc, F, R, rfl, rfl, by rw [HNx.out], PW.more HP4.out⟩
                      · have o4 : (op == 4) = false := by simpa using e4
                        clear e3 e4
                        as_aux_lemma =>
                          go_wp2_with fail
                          go_meet
                          exact ⟨last, b, v, m, ro, rn, rc, F, R, rfl, rfl, by rw [HNx.out], PW.more HP3.out⟩
              case rest =>
                obtain ⟨last9, b9, v9, m9, ro9, rn9, rc9, F9, R9, rfl, rfl, rfl, HP9⟩ := hcut
                as_aux_lemma =>
                  have hall := HP9.out.all (by omega)
                  have HlF : Hid (F9.length = rn9) := (like_len HP9.out.like).trans HP9.out.rr.len.symm
                  clear HP3 HB3 HArg HAT HrL HOk
                  go_wp2_with fail
                  refine hall.mono ?_
                  rintro e wa ⟨ao1, cap1, rfl, hba, hof⟩
                  clear hall
                  go_wp2_with fail
                  refine hof.out.mono ?_
                  rintro e wb ⟨ao2, cap2, rfl, hbb, hsm⟩
                  clear hof
                  go_wp2_with fail
                  refine hsm.out.mono ?_
                  rintro e wd ⟨rfl, hbd⟩
                  have HP10 : Hid (PW w wd b9 v9 m9 (.slice ro9 rn9 rc9) last9 (k + 1) F9 R9) := HP9.out.next (next_trans (next_trans hba hbb) hbd)
                  have hlen := HP10.out.lw.len_is rn9 (by have := HlF.out; omega)
                  have hnxt := HP10.out.lw.next_is (last9 + 1) rfl
                  clear hsm hba hbb hbd HP9 HlF
                  go_wp2_with (first
                    | (go_at_call 19; refine hlen.mono ?_; rintro e wd ⟨rfl, rfl⟩)
                    | (go_at_call 20; refine hnxt.mono ?_; rintro e wd ⟨rfl, rfl⟩))
                  go_roundw
                  case rel =>
                    first
                      | exact ⟨k + 1, last9, b9, v9, m9, ro9, rn9, rc9, F9, R9, by omega, rfl, rfl, by first | rfl | go_num, by go_num, HP10⟩
                      | (repeat apply Exists.intro
                         exact ⟨(by omega : k + 1 ≤ len), rfl, rfl, (by first | rfl | go_num), (by go_num), HP10⟩)
                  case measure => simp [intOf]; omega
    · as_aux_lemma =>
        have hki : ¬ (k : Int) < (len : Int) := by omega
        have hk200 : k ≤ 200 := by omega
        have hnxb : nx ≤ 1000 := by
          have h1 := HNx.out
          have h2 := HP.out.le
          omega
        have hrnb : rn ≤ 1000 := by
          have h1 := HP.out.len
          have h2 := HP.out.rr.len
          omega
        go_wp2_with fail
        clear hki hlt
        go_loopw [21] (fun i wq => ∃ id : Nat, id ≤ nx + 1 ∧ i = .int .i64 id ∧ Hid (PW w wq b v m (.slice ro rn rc) last k F R)) (fun i _ => nx + 1 - (intOf i).toNat)
        case atStart => exact ⟨0, Nat.zero_le _, rfl, HP⟩
        case round =>
          obtain ⟨id, hid, rfl, HQ⟩ := hrel
          clear HP
          by_cases hil : id ≤ nx
          · have hii : (id : Int) ≤ (nx : Int) := by omega
            have hget := HQ.out.get hk200 (id : Int)
            have hwr := HQ.out.lw.bel.size
            go_wp2_with fail
            refine hget.mono ?_
            rintro e w2 ⟨gi, gt, gn, ga, gc, gl, rfl, hb2, HG, HFc⟩
            obtain ⟨fb, hfb⟩ : ∃ fb, w2.heap.size = fb := ⟨_, rfl⟩
            obtain ⟨W5, HW5⟩ : ∃ W5, Hid (w2.alloc (.cells #[.int .i64 gi, .string gt, .slice ga gn gc] 44) = W5) := ⟨_, rfl⟩
            have HB5 : Hid (Bk W5 fb 44 #[.int .i64 gi, .string gt, .slice ga gn gc]) := Bk.made' HW5.out hfb
            have hbW : Below w2.heap.size w2 W5 := by rw [← HW5.out]; exact alloc_below _ _
            have HP5 : Hid (PW w W5 b v m (.slice ro rn rc) last k F R) := HQ.out.next (next_trans hb2 hbW)
            have HV5 : Hid (gl.length = gn ∧ ValsAt W5 w.heap.size ga gc gl ∧ w.heap.size ≤ W5.heap.size) := ⟨HG.out.1, HG.out.2.next hbW, by have h1 := hb2.size; have h2 := hbW.size; omega⟩
            obtain ⟨OK, hOK⟩ : ∃ OK, Hid (inI R (id : Int) rn = OK) := ⟨_, rfl⟩
            rw [hOK.out]
            clear hget HQ hb2 hbW HG hwr
            go_wp2_with fail
            rw [HW5.out]
            clear hii hfb
            go_loopw [24, 25] (fun iv i wx => ∃ j : Nat, j ≤ rn ∧ iv = .bool (inI R (id : Int) j) ∧ i = .int .i64 j ∧ Hid (Below W5.heap.size W5 wx)) (fun _ i _ => rn - (intOf i).toNat)
            case atStart => exact ⟨0, Nat.zero_le _, rfl, rfl, Below.refl _ _⟩
            case round =>
              obtain ⟨j, hj, rfl, rfl, HX⟩ := hrel
              obtain ⟨IN, hIN⟩ : ∃ IN, Hid (inI R (id : Int) j = IN) := ⟨_, rfl⟩
              rw [hIN.out]
              by_cases hjl : j < rn
              · have hji : (j : Int) < (rn : Int) := by omega
                have hj0 : (0 : Int) ≤ (j : Int) := by omega
                have hrl := HP5.out.rr.len
                obtain ⟨f, HF⟩ : ∃ f, Hid (R[j]? = some f) := ⟨_, List.getElem?_eq_getElem (by rw [← hrl]; exact hjl)⟩
                have HR5 : Hid (Rw 34 wr w.heap.size (.slice ro rn rc) R) := (HP5.out.next HX.out).rr
                obtain ⟨g, rfl, r0, _, _⟩ := HR5.out.at HF.out
                obtain ⟨fid, hfe⟩ : ∃ fid : Int, Hid ((f.id : Int) = fid) := ⟨_, rfl⟩
                rw [hfe.out] at r0
                have HS : Hid (inI R (id : Int) (j + 1) = (IN || decide (fid = (id : Int)))) := by rw [Hid, inI_succ HF.out, hIN.out, hfe.out]
                have q0 : wr.cell? ⟨fb, 0, none⟩ = some (.int .i64 gi) := (HB5.out.next HX.out).cell 0
                have q1 : wr.cell? ⟨fb, 1, none⟩ = some (.string gt) := (HB5.out.next HX.out).cell 1
                have q2 : wr.cell? ⟨fb, 2, none⟩ = some (.slice ga gn gc) := (HB5.out.next HX.out).cell 2
                clear hrl hIN
                cases IN
                · by_cases he : fid = (id : Int)
                  · subst he
                    have HS2 : Hid (inI R (id : Int) (j + 1) = true) := by rw [Hid, HS.out]; simp
                    obtain ⟨hgi, hg50, hgfc⟩ := HFc.out j f HF.out hfe.out
                    have hrc : rn ≤ rc := by
                      obtain ⟨_, _, e, hh, _⟩ := HR5.out.slice
                      injection e with _ e2 e3
                      omega
                    have HOf : Hid (∀ w', wr.drew.alloc (.cells #[.int .i64 gi, .string gt, .slice ga gn gc] 44) = w' → Calls Tryd.prog 18 #[.slice (some ⟨wr.heap.size, 0, none⟩) 1 1] w' fun e w2 => ∃ ao2 cap2, e = .returned (.slice ao2 1 cap2) ∧ Below w'.heap.size w' w2 ∧ Hid (∀ cb, Calls Tryd.prog 17 #[.slice ao2 1 cap2, .slice (some ⟨g, j * 3, none⟩) 1 cb] w2 fun e w3 => e = .returned (.bool true) ∧ Below w2.heap.size w2 w3)) := by
                      intro w' hw
                      have hd : Below wr.heap.size wr wr.drew := (Below.refl _ _).drew
                      rw [hgi, ← hfe.out] at hw
                      exact lit_same (w := wr.drew) (i := f.id) HV5.out.1 ((HV5.out.2.1.next HX.out).next hd) (Nat.le_trans HV5.out.2.2 HX.out.size) (HR5.out.next hd) HF.out hg50 hgfc hw
                    obtain ⟨j1, hj1⟩ : ∃ j1, j + 1 = j1 := ⟨_, rfl⟩
                    have hji1 : (j : Int) + 1 = (j1 : Int) := by omega
                    have hj10 : (0 : Int) ≤ (j1 : Int) := by omega
                    have hjw : IntKind.i64.wrap (j1 : Int) = (j1 : Int) := by rw [IntKind.wrap_i64]; omega
                    have hj1c : (j1 : Int) ≤ (rc : Int) := by omega
                    have hj1n : j1 ≤ rc := by omega
                    have hjj1 : (j : Int) ≤ (j1 : Int) := by omega
                    have hjj2 : j ≤ j1 := by omega
                    have hj1s : j1 - j = 1 := by omega
                    have hrcj : ¬ rc = j := by omega
                    clear hgi hg50 hgfc HFc HR5 hj1 hrc
                    go_wp2_with fail
                    refine wp_region_held_drew (S := (fun w' => w'.cell? ⟨g, j * 3, none⟩ = some (.int .i64 (id : Int)) ∧ w'.cell? ⟨fb, 0, none⟩ = some (.int .i64 gi) ∧ w'.cell? ⟨fb, 1, none⟩ = some (.string gt) ∧ w'.cell? ⟨fb, 2, none⟩ = some (.slice ga gn gc))) (by kernel_rfl) ?_ (fun hHeldz => ?_)
                    · exact ⟨r0, q0, q1, q2⟩
                    refine wpAnyH_take (i := 0) (oi := { dst := some 286, op := Op.move (Operand.tmp 24), type := 4, pos := "law.go:128", after := #[], guard := none }) (v := ?_) rfl (by kernel_rfl) (by kernel_rfl) (by kernel_rfl) (fun _ _ _ h => h) (Or.inl ⟨by rfl, ?hyz0⟩) (by assumption) ?_
                    case hyz0 => (intro w hSw; (try dsimp only at hSw); go_simp; try with_reducible rfl)
                    (try simp only [Act.put, List.setIfInBounds_toArray, List.set_cons_zero, List.set_cons_succ])
                    refine wpAnyH_take (i := 1) (oi := { dst := some 287, op := Op.move (Operand.tmp 286), type := 4, pos := "law.go:128", after := #[{ on := 0, ground := Ground.data }], guard := none }) (v := ?_) rfl (by kernel_rfl) (by kernel_rfl) (by kernel_rfl) (fun _ _ _ h => h) (Or.inl ⟨by rfl, ?hyz1⟩) (by assumption) ?_
                    case hyz1 => (intro w hSw; (try dsimp only at hSw); go_simp; try with_reducible rfl)
                    (try simp only [Act.put, List.setIfInBounds_toArray, List.set_cons_zero, List.set_cons_succ])
                    refine wpAnyH_take (i := 2) (oi := { dst := some 288, op := Op.move (Operand.tmp 4), type := 26, pos := "law.go:128", after := #[{ on := 1, ground := Ground.guard }], guard := some (1, false) }) (v := ?_) rfl (by kernel_rfl) (by kernel_rfl) (by kernel_rfl) (fun _ _ _ h => h) (Or.inl ⟨by rfl, ?hyz2⟩) (by assumption) ?_
                    case hyz2 => (intro w hSw; (try dsimp only at hSw); go_simp; try with_reducible rfl)
                    (try simp only [Act.put, List.setIfInBounds_toArray, List.set_cons_zero, List.set_cons_succ])
                    refine wpAnyH_take (i := 3) (oi := { dst := some 289, op := Op.move (Operand.tmp 25), type := 3, pos := "law.go:128", after := #[{ on := 1, ground := Ground.guard }], guard := some (1, false) }) (v := ?_) rfl (by kernel_rfl) (by kernel_rfl) (by kernel_rfl) (fun _ _ _ h => h) (Or.inl ⟨by rfl, ?hyz3⟩) (by assumption) ?_
                    case hyz3 => (intro w hSw; (try dsimp only at hSw); go_simp; try with_reducible rfl)
                    (try simp only [Act.put, List.setIfInBounds_toArray, List.set_cons_zero, List.set_cons_succ])
                    refine wpAnyH_take (i := 4) (oi := { dst := some 290, op := Op.indexAddr 26 (Operand.tmp 288) (Operand.tmp 289), type := 0, pos := "law.go:128", after := #[{ on := 2, ground := Ground.data }, { on := 3, ground := Ground.data }, { on := 1, ground := Ground.guard }], guard := some (1, false) }) (v := ?_) rfl (by kernel_rfl) (by kernel_rfl) (by kernel_rfl) (fun _ _ _ h => h) (Or.inl ⟨by rfl, ?hyz4⟩) (by assumption) ?_
                    case hyz4 => (intro w hSw; (try dsimp only at hSw); go_simp; try with_reducible rfl)
                    (try simp only [Act.put, List.setIfInBounds_toArray, List.set_cons_zero, List.set_cons_succ])
                    refine wpAnyH_take (i := 5) (oi := { dst := some 291, op := Op.fieldAddr 34 (Operand.tmp 290) 0, type := 0, pos := "law.go:128", after := #[{ on := 4, ground := Ground.data }, { on := 1, ground := Ground.guard }], guard := some (1, false) }) (v := ?_) rfl (by kernel_rfl) (by kernel_rfl) (by kernel_rfl) (fun _ _ _ h => h) (Or.inl ⟨by rfl, ?hyz5⟩) (by assumption) ?_
                    case hyz5 => (intro w hSw; (try dsimp only at hSw); go_simp; try with_reducible rfl)
                    (try simp only [Act.put, List.setIfInBounds_toArray, List.set_cons_zero, List.set_cons_succ])
                    refine wpAnyH_take (i := 6) (oi := { dst := some 292, op := Op.load 3 (Operand.tmp 291), type := 3, pos := "law.go:128", after := #[{ on := 5, ground := Ground.data }, { on := 1, ground := Ground.guard }], guard := some (1, false) }) (v := ?_) rfl (by kernel_rfl) (by kernel_rfl) (by kernel_rfl) (fun _ _ _ h => h) (Or.inl ⟨by rfl, ?hyz6⟩) (by assumption) ?_
                    case hyz6 => (intro w hSw; (try dsimp only at hSw); go_simp; try with_reducible rfl)
                    (try simp only [Act.put, List.setIfInBounds_toArray, List.set_cons_zero, List.set_cons_succ])
                    refine wpAnyH_take (i := 7) (oi := { dst := some 293, op := Op.move (Operand.tmp 21), type := 3, pos := "law.go:128", after := #[{ on := 1, ground := Ground.guard }], guard := some (1, false) }) (v := ?_) rfl (by kernel_rfl) (by kernel_rfl) (by kernel_rfl) (fun _ _ _ h => h) (Or.inl ⟨by rfl, ?hyz7⟩) (by assumption) ?_
                    case hyz7 => (intro w hSw; (try dsimp only at hSw); go_simp; try with_reducible rfl)
                    (try simp only [Act.put, List.setIfInBounds_toArray, List.set_cons_zero, List.set_cons_succ])
                    refine wpAnyH_take (i := 8) (oi := { dst := some 294, op := Op.binOp BinOp.eql 3 (Operand.tmp 292) (Operand.tmp 293) 3, type := 4, pos := "law.go:128", after := #[{ on := 6, ground := Ground.data }, { on := 7, ground := Ground.data }, { on := 1, ground := Ground.guard }], guard := some (1, false) }) (v := ?_) rfl (by kernel_rfl) (by kernel_rfl) (by kernel_rfl) (fun _ _ _ h => h) (Or.inl ⟨by rfl, ?hyz8⟩) (by assumption) ?_
                    case hyz8 => (intro w hSw; (try dsimp only at hSw); go_simp; try with_reducible rfl)
                    (try simp only [Act.put, List.setIfInBounds_toArray, List.set_cons_zero, List.set_cons_succ])
                    refine wpAnyH_take (i := 9) (oi := { dst := some 295, op := Op.move (Operand.tmp 294), type := 4, pos := "law.go:128", after := #[{ on := 8, ground := Ground.data }, { on := 1, ground := Ground.chain }, { on := 1, ground := Ground.guard }], guard := some (1, false) }) (v := ?_) rfl (by kernel_rfl) (by kernel_rfl) (by kernel_rfl) (fun _ _ _ h => h) (Or.inl ⟨by rfl, ?hyz9⟩) (by assumption) ?_
                    case hyz9 => (intro w hSw; (try dsimp only at hSw); go_simp; try with_reducible rfl)
                    (try simp only [Act.put, List.setIfInBounds_toArray, List.set_cons_zero, List.set_cons_succ])
                    refine wpAnyH_take (i := 10) (oi := { dst := some 296, op := Op.load 44 (Operand.tmp 22), type := 44, pos := "law.go:128", after := #[{ on := 9, ground := Ground.guard }], guard := some (9, true) }) (v := ?_) rfl (by kernel_rfl) (by kernel_rfl) (by kernel_rfl) (fun _ _ _ h => h) (Or.inl ⟨by rfl, ?hyz10⟩) (by assumption) ?_
                    case hyz10 => (intro w hSw; (try dsimp only at hSw); go_simp; try with_reducible rfl)
                    (try simp only [Act.put, List.setIfInBounds_toArray, List.set_cons_zero, List.set_cons_succ])
                    refine wpAnyH_take (i := 13) (oi := { dst := some 299, op := Op.move (Operand.tmp 4), type := 26, pos := "law.go:128", after := #[{ on := 9, ground := Ground.guard }], guard := some (9, true) }) (v := ?_) rfl (by kernel_rfl) (by kernel_rfl) (by kernel_rfl) (fun _ _ _ h => h) (Or.inl ⟨by rfl, ?hyz13⟩) (by assumption) ?_
                    case hyz13 => (intro w hSw; (try dsimp only at hSw); go_simp; try with_reducible rfl)
                    (try simp only [Act.put, List.setIfInBounds_toArray, List.set_cons_zero, List.set_cons_succ])
                    refine wpAnyH_take (i := 14) (oi := { dst := some 300, op := Op.move (Operand.tmp 25), type := 3, pos := "law.go:128", after := #[{ on := 9, ground := Ground.guard }], guard := some (9, true) }) (v := ?_) rfl (by kernel_rfl) (by kernel_rfl) (by kernel_rfl) (fun _ _ _ h => h) (Or.inl ⟨by rfl, ?hyz14⟩) (by assumption) ?_
                    case hyz14 => (intro w hSw; (try dsimp only at hSw); go_simp; try with_reducible rfl)
                    (try simp only [Act.put, List.setIfInBounds_toArray, List.set_cons_zero, List.set_cons_succ])
                    refine wpAnyH_take (i := 15) (oi := { dst := some 301, op := Op.move (Operand.tmp 25), type := 3, pos := "law.go:128", after := #[{ on := 9, ground := Ground.guard }], guard := some (9, true) }) (v := ?_) rfl (by kernel_rfl) (by kernel_rfl) (by kernel_rfl) (fun _ _ _ h => h) (Or.inl ⟨by rfl, ?hyz15⟩) (by assumption) ?_
                    case hyz15 => (intro w hSw; (try dsimp only at hSw); go_simp; try with_reducible rfl)
                    (try simp only [Act.put, List.setIfInBounds_toArray, List.set_cons_zero, List.set_cons_succ])
                    refine wpAnyH_take (i := 16) (oi := { dst := some 302, op := Op.binOp BinOp.add 3 (Operand.tmp 301) (Operand.const (Value.int IntKind.i64 1)) 3, type := 3, pos := "law.go:128", after := #[{ on := 15, ground := Ground.data }, { on := 9, ground := Ground.guard }], guard := some (9, true) }) (v := ?_) rfl (by kernel_rfl) (by kernel_rfl) (by kernel_rfl) (fun _ _ _ h => h) (Or.inl ⟨by rfl, ?hyz16⟩) (by assumption) ?_
                    case hyz16 => (intro w hSw; (try dsimp only at hSw); go_simp; try with_reducible rfl)
                    (try simp only [Act.put, List.setIfInBounds_toArray, List.set_cons_zero, List.set_cons_succ])
                    refine wpAnyH_take (i := 17) (oi := { dst := some 303, op := Op.slice 26 (Operand.tmp 299) (some (Operand.tmp 300)) (some (Operand.tmp 302)) none, type := 26, pos := "law.go:128", after := #[{ on := 13, ground := Ground.data }, { on := 14, ground := Ground.data }, { on := 16, ground := Ground.data }, { on := 9, ground := Ground.guard }], guard := some (9, true) }) (v := ?_) rfl (by kernel_rfl) (by kernel_rfl) (by kernel_rfl) (fun _ _ _ h => h) (Or.inl ⟨by rfl, ?hyz17⟩) (by assumption) ?_
                    case hyz17 => (intro w hSw; (try dsimp only at hSw); go_simp; try with_reducible rfl)
                    (try simp only [Act.put, List.setIfInBounds_toArray, List.set_cons_zero, List.set_cons_succ])
                    refine wpAnyH_ready (rs := [11]) (by kernel_rfl) (by simp) ?_
                    refine AllReadyH.cons (o := { dst := some 297, op := Op.buildSlice 42 1 #[(0, Operand.tmp 296)], type := 42, pos := "law.go:128", after := #[{ on := 10, ground := Ground.data }, { on := 9, ground := Ground.guard }], guard := some (9, true) }) rfl (fun K hK => ?_) AllReadyH.nil
                    go_simp
                    refine hK.out _ _ ?_ (fun hHeldzm => ?_)
                    · obtain ⟨p0, p1, p2, p3⟩ := hHeldz
                      exact ⟨alloc_cell p0, alloc_cell p1, alloc_cell p2, alloc_cell p3⟩
                    clear hK K hHeldz
                    (try simp only [Act.put, List.setIfInBounds_toArray, List.set_cons_zero, List.set_cons_succ])
                    obtain ⟨W6, HW6⟩ : ∃ W6, Hid ((wr.alloc (.cells #[.int .i64 gi, .string gt, .slice ga gn gc] 44)).drew = W6) := ⟨_, rfl⟩
                    have HX6 : Hid (Below wr.heap.size wr W6) := by rw [← HW6.out]; exact below_drawn (alloc_below wr _) 1
                    rw [HW6.out] at hHeldzm ⊢
                    refine wpAnyH_ready (rs := [12]) (by kernel_rfl) (by simp) ?_
                    refine AllReadyH.cons (o := { dst := some 298, op := Op.call { callee := Callee.value (Operand.func 18), args := #[Operand.tmp 297], argTypes := #[42] }, type := 26, pos := "law.go:128", after := #[{ on := 11, ground := Ground.data }, { on := 9, ground := Ground.chain }, { on := 9, ground := Ground.guard }], guard := some (9, true) }) rfl (fun K hK => ?_) AllReadyH.nil
                    go_simp
                    refine (HOf.out W6 HW6.out).mono ?_
                    rintro e w4 ⟨ao2, cap2, rfl, hb, HSm⟩
                    have HX4 : Hid (Below wr.heap.size wr w4) := next_trans HX6.out hb
                    refine hK.out _ _ ?_ (fun hHeldzmx => ?_)
                    · obtain ⟨p0, p1, p2, p3⟩ := hHeldzm
                      exact ⟨keep_cell hb p0, keep_cell hb p1, keep_cell hb p2, keep_cell hb p3⟩
                    clear hK K hb hHeldzm
                    (try simp only [Act.put, List.setIfInBounds_toArray, List.set_cons_zero, List.set_cons_succ])
                    refine wpAnyH_ready (rs := [18]) (by kernel_rfl) (by simp) ?_
                    refine AllReadyH.cons (o := { dst := some 304, op := Op.call { callee := Callee.value (Operand.func 17), args := #[Operand.tmp 298, Operand.tmp 303], argTypes := #[26, 26] }, type := 4, pos := "law.go:128", after := #[{ on := 12, ground := Ground.data }, { on := 17, ground := Ground.data }, { on := 12, ground := Ground.chain }, { on := 9, ground := Ground.guard }], guard := some (9, true) }) rfl (fun K hK => ?_) AllReadyH.nil
                    go_simp
                    refine (HSm.out _).mono ?_
                    rintro e w5 ⟨rfl, hb⟩
                    have HX5 : Hid (Below wr.heap.size wr w5) := next_trans HX4.out hb
                    refine hK.out _ _ ?_ (fun hHeldzmxx => ?_)
                    · obtain ⟨p0, p1, p2, p3⟩ := hHeldzmx
                      exact ⟨keep_cell hb p0, keep_cell hb p1, keep_cell hb p2, keep_cell hb p3⟩
                    clear hK K hb hHeldzmx
                    (try simp only [Act.put, List.setIfInBounds_toArray, List.set_cons_zero, List.set_cons_succ])
                    refine wpAnyH_take (i := 19) (oi := { dst := some 305, op := Op.pick (Operand.tmp 295) (Operand.tmp 304) (Operand.const (Value.bool false)), type := 4, pos := "law.go:128", after := #[{ on := 9, ground := Ground.data }, { on := 18, ground := Ground.data }, { on := 1, ground := Ground.guard }], guard := some (1, false) }) (v := ?_) rfl (by kernel_rfl) (by kernel_rfl) (by kernel_rfl) (fun _ _ _ h => h) (Or.inl ⟨by rfl, ?hyz19⟩) (by assumption) ?_
                    case hyz19 => (intro w hSw; (try dsimp only at hSw); go_simp; try with_reducible rfl)
                    (try simp only [Act.put, List.setIfInBounds_toArray, List.set_cons_zero, List.set_cons_succ])
                    refine wpAnyH_take (i := 20) (oi := { dst := some 306, op := Op.pick (Operand.tmp 287) (Operand.const (Value.bool true)) (Operand.tmp 305), type := 4, pos := "law.go:128", after := #[{ on := 1, ground := Ground.data }, { on := 19, ground := Ground.data }], guard := none }) (v := ?_) rfl (by kernel_rfl) (by kernel_rfl) (by kernel_rfl) (fun _ _ _ h => h) (Or.inl ⟨by rfl, ?hyz20⟩) (by assumption) ?_
                    case hyz20 => (intro w hSw; (try dsimp only at hSw); go_simp; try with_reducible rfl)
                    (try simp only [Act.put, List.setIfInBounds_toArray, List.set_cons_zero, List.set_cons_succ])
                    refine wpAnyH_take (i := 21) (oi := { dst := some 24, op := Op.assign (Operand.tmp 306), type := 4, pos := "law.go:128", after := #[{ on := 20, ground := Ground.data }, { on := 18, ground := Ground.chain }, { on := 0, ground := Ground.phase }, { on := 1, ground := Ground.phase }, { on := 2, ground := Ground.phase }, { on := 3, ground := Ground.phase }, { on := 4, ground := Ground.phase }, { on := 5, ground := Ground.phase }, { on := 6, ground := Ground.phase }, { on := 7, ground := Ground.phase }, { on := 8, ground := Ground.phase }, { on := 9, ground := Ground.phase }, { on := 10, ground := Ground.phase }, { on := 11, ground := Ground.phase }, { on := 12, ground := Ground.phase }, { on := 13, ground := Ground.phase }, { on := 14, ground := Ground.phase }, { on := 15, ground := Ground.phase }, { on := 16, ground := Ground.phase }, { on := 17, ground := Ground.phase }, { on := 18, ground := Ground.phase }, { on := 19, ground := Ground.phase }, { on := 20, ground := Ground.phase }], guard := none }) (v := ?_) rfl (by kernel_rfl) (by kernel_rfl) (by kernel_rfl) (fun _ _ _ h => h) (Or.inl ⟨by rfl, ?hyz21⟩) (by assumption) ?_
                    case hyz21 => (intro w hSw; (try dsimp only at hSw); go_simp; try with_reducible rfl)
                    (try simp only [Act.put, List.setIfInBounds_toArray, List.set_cons_zero, List.set_cons_succ])
                    refine wpAnyH_done (by kernel_rfl) ?_ _
                    go_wp2_with fail
                    go_roundw
                    case rel => exact ⟨j + 1, by omega, by rw [HS2.out], by go_num, next_trans HX.out HX5.out⟩
                    case measure => simp [intOf]; omega
                  · have iq : (fid == (id : Int)) = false := by simpa using he
                    have HS2 : Hid (inI R (id : Int) (j + 1) = false) := by rw [Hid, HS.out, decide_eq_false he]; rfl
                    clear he HFc HR5 HS q0 q1 q2
                    go_wp2_with fail
                    go_quiet (fail)
                    go_wp2_with fail
                    go_roundw
                    case rel => exact ⟨j + 1, by omega, by rw [HS2.out], by go_num, next_trans HX.out (below_drawn (Below.refl _ _) _)⟩
                    case measure => simp [intOf]; omega
                · have HS2 : Hid (inI R (id : Int) (j + 1) = true) := by rw [Hid, HS.out]; simp
                  clear HFc HR5 HS q0 q1 q2 r0
                  go_wp2_with fail
                  go_quiet (fail)
                  go_wp2_with fail
                  go_roundw
                  case rel => exact ⟨j + 1, by omega, by rw [HS2.out], by go_num, next_trans HX.out (below_drawn (Below.refl _ _) _)⟩
                  case measure => simp [intOf]; omega
              · have hji : ¬ (j : Int) < (rn : Int) := by omega
                obtain rfl : IN = OK := by
                  have e : j = rn := by omega
                  rw [← hIN.out, ← hOK.out, e]
                clear hIN hOK HFc
                cases IN
                · go_wp2_with fail
                  go_roundw
                  case rel => exact ⟨id + 1, by omega, by go_num, HP5.out.next HX.out⟩
                  case measure => simp [intOf]; omega
                · go_wp2_with fail
                  go_roundw
                  case rel => exact ⟨id + 1, by omega, by go_num, HP5.out.next HX.out⟩
                  case measure => simp [intOf]; omega
          · have hii : ¬ (id : Int) ≤ (nx : Int) := by omega
            have HO : Hid (Below w.heap.size w wr) := HQ.out.lw.bel
            clear HQ
            go_wp2_with fail
            go_ret
            exact ⟨rfl, HO.out⟩

end Go.Proofs.YtgjnnahflaaagaaDoor
