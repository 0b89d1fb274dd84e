/- Get of binds: eval's, the reference's. -/
import Derived.Deep.RegionWith
import Derived.Test.YtnhbjhdkpbhioaaGreatDoorTmDfO
import Derived.Lib.SliceRun
import Derived.Test.YtnhbjhdkpbhioaaGreatDoorG33
import Derived.Test.YtnhbjhdkpbhioaaGreatDoorG31
namespace Go.Proofs.YtnhbjhdkpbhioaaGreatDoor
open Go.RowKit

def gtV (E : List Sl) (m : ByteArray) : Sl × Bool := match gtB E m with
  | some s => (s, true)
  | none => (zSl, false)
theorem gtV_yes {E : List Sl} {m : ByteArray} {s : Sl} (h : gtB E m = some s) : gtV E m = (s, true) := by unfold gtV; rw [h]
theorem gtV_no {E : List Sl} {m : ByteArray} (h : gtB E m = none) : gtV E m = (zSl, false) := by unfold gtV; rw [h]
theorem ret_gv {R : Sl × Bool} {n : ByteArray} {k i : Int} {s : ByteArray} {b : Bool} (h : R = (⟨n, k, i, s⟩, b)) : Ending.returned (.tuple #[.agg #[.int .i64 (k), .int .i64 (i), .string (s)], .bool b]) = .returned (.tuple #[.agg #[.int .i64 (R.1.k), .int .i64 (R.1.i), .string (R.1.s)], .bool R.2]) := by rw [h]
theorem bel3 {w W : World} {B b : Nat} (h : Below B w W) (hb : B ≤ b) (v0 v1 v2 : Value) : Below B w (((W.setCell ⟨b, 0, none⟩ v0).setCell ⟨b, 1, none⟩ v1).setCell ⟨b, 2, none⟩ v2) := set_bel (set_bel (set_bel h hb) hb) hb

set_option maxHeartbeats 4000000 in
set_option maxRecDepth 8000 in
theorem get_any (ao : Option Addr) (N cap : Nat) (E : List Sl) (m : ByteArray) (w : World) (hN : E.length = N) (hNb : N ≤ 100000) (hI : IsSls w ao E) :
    Calls Tryz.prog 70 #[.slice ao N cap, .string m] w fun e w' => e = .returned (.tuple #[.agg #[.int .i64 ((gtV E m).1.k), .int .i64 ((gtV E m).1.i), .string ((gtV E m).1.s)], .bool (gtV E m).2]) ∧ Below w.heap.size w w' := by
  obtain ⟨R, HR⟩ : ∃ R, Hid (gtV E m = R) := ⟨_, rfl⟩
  rw [HR.out]
  obtain ⟨W, HWe⟩ : ∃ W, Hid (w.alloc (.cells #[.int .i64 0, .int .i64 0, .string ⟨#[]⟩] 71) = W) := ⟨_, rfl⟩
  have HB : Hid (Below w.heap.size w W) := by rw [← HWe.out]; exact alloc_below _ _
  have HX : Hid (Bx W w.heap.size #[.int .i64 0, .int .i64 0, .string ⟨#[]⟩]) := Bx.made' HWe.out rfl
  have HL : Hid (Calls Tryz.prog 101 #[.slice ao N cap, .string m] W fun e W' => ((e = .returned (.int .i64 (-1)) ∧ gtB E m = none) ∨ ∃ (j : Nat) (s : Sl), e = .returned (.int .i64 (j : Int)) ∧ E[j]? = some s ∧ gtB E m = some s) ∧ Below W.heap.size W W') :=
    lastof_any ao N cap m E W hN hNb (hI.next HB.out)
  have HI : Hid (∀ w', Below w.heap.size w w' → IsSls w' ao E) := fun w' h => hI.next h
  have HN : Hid (E.length = N) := hN
  clear hI hN
  go_enter Tryz.func70, Tryz.ntmps70
  go_wp2_with fail
  rw [HWe.out]
  clear HWe
  refine HL.out.mono ?_
  rintro e w1 ⟨hr, hb1⟩
  have HB1 : Hid (Below w.heap.size w w1) := next_trans HB.out hb1
  have HX1 : Hid (Bx w1 w.heap.size #[.int .i64 0, .int .i64 0, .string ⟨#[]⟩]) := HX.out.next hb1
  have r0 : w1.cell? ⟨w.heap.size, 0, none⟩ = some (.int .i64 0) := HX1.out.cell 0
  have r1 : w1.cell? ⟨w.heap.size, 1, none⟩ = some (.int .i64 0) := HX1.out.cell 1
  have r2 : w1.cell? ⟨w.heap.size, 2, none⟩ = some (.string ⟨#[]⟩) := HX1.out.cell 2
  have rf := HX1.out.froz
  have HD := bel3 (b := w.heap.size) HB1.out (Nat.le_refl _)
  rcases hr with ⟨rfl, hg⟩ | ⟨j, s, rfl, hs, hg⟩
  · have HF : Hid (R = (zSl, false)) := by rw [Hid, ← HR.out]; exact gtV_no hg
    clear hg hb1 HL HX HB HX1 HR HI
    go_wp2
    exact bodyPost_ret (v := .tuple #[.agg #[.int .i64 (0), .int .i64 (0), .string (⟨#[]⟩)], .bool false]) (by simp [results, Tryz.results70, go_sem, r0, r1, r2]) rfl ⟨ret_gv (n := noS) HF.out, HD _ _ _⟩
  · have HF : Hid (R = (s, true)) := by rw [Hid, ← HR.out]; exact gtV_yes hg
    have hj : j < N := by have := (List.getElem?_eq_some_iff.1 hs).1; rw [HN.out] at this; exact this
    have hji : (j : Int) < (N : Int) := by omega
    have hj0 : (0 : Int) ≤ (j : Int) := by omega
    have hjn : ¬ (j : Int) < 0 := by omega
    obtain ⟨b, o, rfl, c0, c1, c2, c3⟩ := HI.out w1 HB1.out j s hs
    obtain ⟨sn, sk, si, ss⟩ := s
    simp only at c0 c1 c2 c3
    clear hg hb1 HL HX HB HX1 HR HI hs hj
    go_wp2
    exact bodyPost_ret (v := .tuple #[.agg #[.int .i64 (sk), .int .i64 (si), .string (ss)], .bool true]) (by simp [results, Tryz.results70, go_sem, r0, r1, r2]) rfl ⟨ret_gv HF.out, HD _ _ _⟩

set_option maxHeartbeats 4000000 in
set_option maxRecDepth 8000 in
theorem rgt_any (ao : Option Addr) (N cap : Nat) (E : List Sl) (m : ByteArray) (w : World) (hN : E.length = N) (hNb : N ≤ 100000) (hI : IsSls w ao E) :
    Calls Tryz.prog 72 #[.slice ao N cap, .string m] w fun e w' => e = .returned (.tuple #[.agg #[.int .i64 ((gtV E m).1.k), .int .i64 ((gtV E m).1.i), .string ((gtV E m).1.s)], .bool (gtV E m).2]) ∧ Below w.heap.size w w' := by
  obtain ⟨R, HR⟩ : ∃ R, Hid (gtV E m = R) := ⟨_, rfl⟩
  have HEn : Hid (IsSls w ao E) := hI
  have HN : Hid (E.length = N) := hN
  rw [HR.out]
  clear hI hN
  have hm1 : IntKind.i64.wrap ((N : Int) - 1) = (N : Int) - 1 := by rw [IntKind.wrap_i64] <;> omega
  go_enter Tryz.func72, Tryz.ntmps72
  go_wp2
  obtain ⟨W, hW⟩ : ∃ W, w.alloc (.cells #[.int .i64 0, .int .i64 0, .string ⟨#[]⟩] 71) = W := ⟨_, rfl⟩
  have HB : Hid (Below w.heap.size w W) := by rw [← hW]; exact alloc_below _ _
  have HX : Bx W w.heap.size #[.int .i64 0, .int .i64 0, .string ⟨#[]⟩] := Bx.made' hW rfl
  have z0 : W.cell? ⟨w.heap.size, 0, none⟩ = some (.int .i64 0) := HX.cell 0
  have z1 : W.cell? ⟨w.heap.size, 1, none⟩ = some (.int .i64 0) := HX.cell 1
  have z2 : W.cell? ⟨w.heap.size, 2, none⟩ = some (.string ⟨#[]⟩) := HX.cell 2
  have zf := HX.froz
  have HD := bel3 (b := w.heap.size) HB.out (Nat.le_refl _)
  rw [hW]
  clear hW HX
  go_loop [6] (fun q => ∃ k : Nat, k ≤ N ∧ q = .int .i64 ((k : Int) - 1) ∧ Hid (∀ (j : Nat) (p : Sl), k ≤ j → E[j]? = some p → p.n ≠ m)) (fun q => (intOf q + 1).toNat)
  case atStart => exact ⟨N, Nat.le_refl _, by go_num, fun j p hm hp => absurd (List.getElem?_eq_some_iff.1 hp).1 (by rw [HN.out]; omega)⟩
  case round =>
    obtain ⟨k, hk, hq, HA⟩ := hrel
    cases k with
    | zero =>
      have hq' : u6 = .int .i64 (-1) := hq
      subst hq'
      have HF : Hid (R = (zSl, false)) := by rw [Hid, ← HR.out]; exact gtV_no (gtB_miss E m fun j p hp => HA.out j p (Nat.zero_le _) hp)
      clear hq
      go_wp2
      exact bodyPost_ret (v := .tuple #[.agg #[.int .i64 (0), .int .i64 (0), .string (⟨#[]⟩)], .bool false]) (by simp [results, Tryz.results72, go_sem, z0, z1, z2]) rfl ⟨ret_gv (n := noS) HF.out, HD _ _ _⟩
    | succ j =>
      have hq' : u6 = .int .i64 (j : Int) := by rw [hq]; congr 1; omega
      subst hq'
      have hlt : j < N := by omega
      have hji : (j : Int) < (N : Int) := by omega
      have hj0 : (0 : Int) ≤ (j : Int) := by omega
      obtain ⟨p, hp⟩ : ∃ p, E[j]? = some p := ⟨_, List.getElem?_eq_getElem (by rw [HN.out]; exact hlt)⟩
      obtain ⟨b, o, rfl, c0, c1, c2, c3⟩ := HEn.out.next HB.out j p hp
      have HPk : Hid (E[j]? = some p) := hp
      obtain ⟨pn, pk, pi, ps⟩ := p
      simp only at c0 c1 c2 c3
      clear hp hq
      by_cases he : pn = m
      · have d : (pn.toList == m.toList) = true := by rw [beq_ba]; exact decide_eq_true he
        have HF : Hid (R = (⟨pn, pk, pi, ps⟩, true)) := by rw [Hid, ← HR.out]; exact gtV_yes (gtB_hit E j _ m HPk.out he fun i x hi hx => HA.out i x (by omega) hx)
        clear he
        go_wp2
        exact bodyPost_ret (v := .tuple #[.agg #[.int .i64 (pk), .int .i64 (pi), .string (ps)], .bool true]) (by simp [results, Tryz.results72, go_sem, z0, z1, z2]) rfl ⟨ret_gv HF.out, HD _ _ _⟩
      · have d : (pn.toList == m.toList) = false := by rw [beq_ba]; exact decide_eq_false he
        have HA2 : Hid (∀ (i : Nat) (p : Sl), j ≤ i → E[i]? = some p → p.n ≠ m) := by
          intro i q hi hq
          by_cases e : i = j
          · subst e; rw [HPk.out] at hq; cases hq; exact he
          · exact HA.out i q (by omega) hq
        clear he
        go_wp2
        go_round
        case rel => exact ⟨j, by omega, by go_num, HA2⟩
        case measure => simp [intOf]
end Go.Proofs.YtnhbjhdkpbhioaaGreatDoor
/- Alone: the program's. -/
namespace Go.Proofs.YtnhbjhdkpbhioaaGreatDoor
open Go.RowKit

/-- A fact as a value. -/
structure Fc where
  id : Int
  t : ByteArray
  l : List Val
def fcV (f : Fc) (ao : Option Addr) (cap : Nat) : Value := .agg #[.int .i64 f.id, .string f.t, .slice ao f.l.length cap]
def alonB (p : Ptn) (f : Fc) : Bool := decide (f.t = p.t) && aloneL f.l p.l
theorem alon_t {p : Ptn} {f : Fc} (h : f.t ≠ p.t) : alonB p f = false := by unfold alonB; rw [decide_eq_false h]; rfl
theorem alon_l {p : Ptn} {f : Fc} (h : f.t = p.t) : alonB p f = aloneL f.l p.l := by unfold alonB; rw [decide_eq_true h]; rfl
theorem aloneL_no {F : List Val} {l : List Ts} {k : Nat} {t : Ts} (h : l[k]? = some t) (h2 : aloneT F t = false) : aloneL F l = false := by
  unfold aloneL
  rw [List.all_eq_false]
  exact ⟨t, List.mem_of_getElem? h, by rw [h2]; simp⟩
theorem aloneL_yes {F : List Val} {l : List Ts} (h : ∀ (k : Nat) (t : Ts), l[k]? = some t → aloneT F t = true) : aloneL F l = true := by
  unfold aloneL
  rw [List.all_eq_true]
  intro t ht
  obtain ⟨k, hk⟩ := List.getElem?_of_mem ht
  exact h k t hk
theorem aloneT_out {F : List Val} {t : Ts} (h : F.length ≤ t.p) : aloneT F t = false := by
  unfold aloneT
  rw [List.getElem?_eq_none h]
theorem aloneT_var {F : List Val} {t : Ts} {v : Val} (h : F[t.p]? = some v) (h2 : t.v ≠ noS) : aloneT F t = true := by
  unfold aloneT
  rw [h]
  simp only
  rw [if_neg h2]
theorem aloneT_val {F : List Val} {t : Ts} {v : Val} (h : F[t.p]? = some v) (h2 : t.v = noS) : aloneT F t = holdT t v.k v.i v.s t.k t.i t.s := by
  unfold aloneT
  rw [h]
  simp only
  rw [if_pos h2]

set_option maxHeartbeats 8000000 in
set_option maxRecDepth 8000 in
theorem alone_any (P : Ptn) (po : Option Addr) (pc : Nat) (f : Fc) (fo : Option Addr) (fc : Nat) (w : World) (hP : P.l.length ≤ 100000) (hs : IsTss w po P.l) (hF : f.l.length ≤ 100000) (hv : IsVals w fo f.l) :
    Calls Tryz.prog 33 #[ptV P po pc, fcV f fo fc] w fun e w' => e = .returned (.bool (alonB P f)) ∧ Below w.heap.size w w' := by
  obtain ⟨pt, pl⟩ := P
  obtain ⟨fid, ft, fl⟩ := f
  unfold ptV fcV
  simp only at hP hs hF hv ⊢
  obtain ⟨R, HR⟩ : ∃ R, Hid (alonB ⟨pt, pl⟩ ⟨fid, ft, fl⟩ = R) := ⟨_, rfl⟩
  rw [HR.out]
  obtain ⟨C, HC⟩ : ∃ C, Hid (pl.length = C) := ⟨_, rfl⟩
  obtain ⟨N, HN⟩ : ∃ N, Hid (fl.length = N) := ⟨_, rfl⟩
  rw [HC.out] at hP ⊢
  rw [HN.out] at hF ⊢
  have HTs : Hid (IsTss w po pl) := hs
  have HVs : Hid (IsVals w fo fl) := hv
  clear hs hv
  obtain ⟨W, HWe⟩ : ∃ W, Hid ((w.alloc (.cells #[.string pt, .slice po C pc] 36)).alloc (.cells #[.int .i64 fid, .string ft, .slice fo N fc] 66) = W) := ⟨_, rfl⟩
  have HB : Hid (Below w.heap.size w W) := by rw [← HWe.out]; exact next_trans (alloc_below _ _) (alloc_below _ _)
  have HX : Hid (Bx W w.heap.size #[.string pt, .slice po C pc]) := by rw [← HWe.out]; exact (Bx.made _ _ _).alloc _
  have HY0 : Bx W (w.heap.size + 1) #[.int .i64 fid, .string ft, .slice fo N fc] := Bx.made' HWe.out (by simp)
  have HY : Hid (W.cell? ⟨w.heap.size + 1, 2, none⟩ = some (.slice fo N fc)) := HY0.cell 2
  clear HY0
  by_cases ht : ft = pt
  case neg =>
    have hd : (ft.toList == pt.toList) = false := by rw [beq_ba]; exact decide_eq_false ht
    obtain rfl : R = false := by rw [← HR.out]; exact alon_t ht
    clear ht HR HX HY
    go_enter Tryz.func33, Tryz.ntmps33
    go_wp2
    rw [HWe.out]
    go_ret
    exact ⟨rfl, HB.out⟩
  have hd : (ft.toList == pt.toList) = true := by rw [beq_ba]; exact decide_eq_true ht
  have HRl : Hid (aloneL fl pl = R) := by rw [Hid, ← HR.out]; exact (alon_l (p := ⟨pt, pl⟩) (f := ⟨fid, ft, fl⟩) ht).symm
  clear ht HR
  go_enter Tryz.func33, Tryz.ntmps33
  go_wp2
  rw [HWe.out]
  clear HWe
  go_loopw [15] (fun q wr => ∃ k : Nat, k ≤ C ∧ q = .int .i64 k ∧ Hid (Below w.heap.size w wr) ∧ Hid (wr.cell? ⟨w.heap.size + 1, 2, none⟩ = some (.slice fo N fc)) ∧ Hid (∀ i t, i < k → pl[i]? = some t → aloneT fl t = true)) (fun q _ => C - (intOf q).toNat)
  case atStart => exact ⟨0, Nat.zero_le _, rfl, HB, HY, fun i t hi => absurd hi (by omega)⟩
  case round =>
    obtain ⟨k, hk, rfl, HB, HY, HA⟩ := hrel
    clear HX
    by_cases hlt : k < C
    · have hki : (k : Int) < (C : Int) := by omega
      have hk0 : (0 : Int) ≤ (k : Int) := by omega
      obtain ⟨t, ht⟩ : ∃ t, pl[k]? = some t := ⟨_, List.getElem?_eq_getElem (by rw [HC.out]; exact hlt)⟩
      obtain ⟨b, o, rfl, c0, c1, c2, c3, c4, c5⟩ := (HTs.out.next HB.out) k t ht
      have HT : Hid (pl[k]? = some t) := ht
      obtain ⟨tp, tn, tv, tk, ti, ts⟩ := t
      simp only at c0 c1 c2 c3 c4 c5
      obtain ⟨hv, Hhv⟩ : ∃ hv, Hid (decide (tp < N) = hv) := ⟨_, rfl⟩
      have HHas : Hid (∀ w', Calls Tryz.prog 73 #[.slice fo N fc, .int .i64 (tp : Int)] w' fun e w2 => e = .returned (.bool hv) ∧ Below w'.heap.size w' w2) := by
        intro w'; rw [← Hhv.out]; exact (hasval_any fo N fc tp w').mono (by rintro e w2 ⟨h1, rfl⟩; exact ⟨h1, Below.refl _ _⟩)
      obtain ⟨W2, HW2⟩ : ∃ W2, Hid (wr.alloc (.cells #[.int .i64 (tp : Int), .bool tn, .string tv, .int .i64 tk, .int .i64 ti, .string ts] 88) = W2) := ⟨_, rfl⟩
      obtain ⟨BT, HBT⟩ : ∃ BT, Hid (wr.heap.size = BT) := ⟨_, rfl⟩
      have HT2 : Hid (Bx W2 BT #[.int .i64 (tp : Int), .bool tn, .string tv, .int .i64 tk, .int .i64 ti, .string ts]) := Bx.made' HW2.out HBT.out
      have HB2 : Hid (Below w.heap.size w W2) := by rw [← HW2.out]; exact next_trans HB.out (alloc_below _ _)
      have y2 : W2.cell? ⟨w.heap.size + 1, 2, none⟩ = some (.slice fo N fc) := by rw [← HW2.out]; exact alloc_cell HY.out
      have t0 : W2.cell? ⟨BT, 0, none⟩ = some (.int .i64 (tp : Int)) := HT2.out.cell 0
      have t1 : W2.cell? ⟨BT, 1, none⟩ = some (.bool tn) := HT2.out.cell 1
      have t2 : W2.cell? ⟨BT, 2, none⟩ = some (.string tv) := HT2.out.cell 2
      have t3 : W2.cell? ⟨BT, 3, none⟩ = some (.int .i64 tk) := HT2.out.cell 3
      have t4 : W2.cell? ⟨BT, 4, none⟩ = some (.int .i64 ti) := HT2.out.cell 4
      have t5 : W2.cell? ⟨BT, 5, none⟩ = some (.string ts) := HT2.out.cell 5
      clear ht
      cases hv with
      | false =>
        obtain rfl : R = false := by
          rw [← HRl.out]
          exact aloneL_no HT.out (aloneT_out (by have h9 := of_decide_eq_false Hhv.out; rw [HN.out]; show N ≤ tp; omega))
        clear HA HT HRl Hhv
        go_wp2
        rw [HW2.out, HBT.out]
        clear HW2 HBT
        refine wp_region_held_drew (S := (fun w' => w'.cell? ⟨w.heap.size + 1, 2, none⟩ = some (.slice fo N fc) ∧ w'.cell? ⟨BT, 0, none⟩ = some (.int .i64 (tp : Int)) ∧ w'.cell? ⟨BT, 1, none⟩ = some (.bool tn) ∧ w'.cell? ⟨BT, 2, none⟩ = some (.string tv) ∧ w'.cell? ⟨BT, 3, none⟩ = some (.int .i64 tk) ∧ w'.cell? ⟨BT, 4, none⟩ = some (.int .i64 ti) ∧ w'.cell? ⟨BT, 5, none⟩ = some (.string ts) ∧ Below w.heap.size w w' ∧ w.heap.size ≤ w'.heap.size)) (by kernel_rfl) ?_ (fun hHeldA => ?_)
        · exact ⟨y2, t0, t1, t2, t3, t4, t5, HB2.out.drew, HB2.out.drew.size⟩
        refine wpAnyH_take (i := 0) (oi := { dst := some 19, op := Op.fieldAddr 66 (Operand.tmp 3) 2, type := 0, pos := "pat.go:191", after := #[], guard := none }) (v := ?_) rfl (by kernel_rfl) (by kernel_rfl) (by kernel_rfl) (fun _ _ _ h => h) (Or.inl ⟨by rfl, ?hyA0⟩) (by assumption) ?_
        case hyA0 => (intro w hSw; (try dsimp only at hSw); go_simp; try with_reducible rfl)
        (try simp only [Act.put, List.setIfInBounds_toArray, List.set_cons_zero, List.set_cons_succ])
        refine wpAnyH_take (i := 1) (oi := { dst := some 20, op := Op.load 64 (Operand.tmp 19), type := 64, pos := "pat.go:191", after := #[{ on := 0, ground := Ground.data }], guard := none }) (v := ?_) rfl (by kernel_rfl) (by kernel_rfl) (by kernel_rfl) (fun _ _ _ h => h) (Or.inl ⟨by rfl, ?hyA1⟩) (by assumption) ?_
        case hyA1 => (intro w hSw; (try dsimp only at hSw); go_simp; try with_reducible rfl)
        (try simp only [Act.put, List.setIfInBounds_toArray, List.set_cons_zero, List.set_cons_succ])
        refine wpAnyH_take (i := 2) (oi := { dst := some 21, op := Op.fieldAddr 88 (Operand.tmp 6) 0, type := 0, pos := "pat.go:191", after := #[], guard := none }) (v := ?_) rfl (by kernel_rfl) (by kernel_rfl) (by kernel_rfl) (fun _ _ _ h => h) (Or.inl ⟨by rfl, ?hyA2⟩) (by assumption) ?_
        case hyA2 => (intro w hSw; (try dsimp only at hSw); go_simp; try with_reducible rfl)
        (try simp only [Act.put, List.setIfInBounds_toArray, List.set_cons_zero, List.set_cons_succ])
        refine wpAnyH_take (i := 3) (oi := { dst := some 22, op := Op.load 3 (Operand.tmp 21), type := 3, pos := "pat.go:191", after := #[{ on := 2, ground := Ground.data }], guard := none }) (v := ?_) rfl (by kernel_rfl) (by kernel_rfl) (by kernel_rfl) (fun _ _ _ h => h) (Or.inl ⟨by rfl, ?hyA3⟩) (by assumption) ?_
        case hyA3 => (intro w hSw; (try dsimp only at hSw); go_simp; try with_reducible rfl)
        (try simp only [Act.put, List.setIfInBounds_toArray, List.set_cons_zero, List.set_cons_succ])
        refine wpAnyH_ready (rs := [4]) (by kernel_rfl) (by simp) ?_
        refine AllReadyH.cons (o := { dst := some 23, op := Op.call { callee := Callee.value (Operand.func 73), args := #[Operand.tmp 20, Operand.tmp 22], argTypes := #[64, 3] }, type := 4, pos := "pat.go:191", after := #[{ on := 1, ground := Ground.data }, { on := 3, ground := Ground.data }], guard := none }) rfl (fun K hK => ?_) AllReadyH.nil
        go_simp
        with_reducible refine (HHas.out _).mono ?_
        rintro e w' ⟨rfl, hb⟩
        refine hK.out _ _ ?_ (fun hHeldAx => ?_)
        · obtain ⟨q0, q1, q2, q3, q4, q5, q6, q7, q8⟩ := hHeldA
          exact ⟨keep_cell hb q0, keep_cell hb q1, keep_cell hb q2, keep_cell hb q3, keep_cell hb q4, keep_cell hb q5, keep_cell hb q6, below_next q7 hb q8, le_next q8 hb⟩
        clear hK K hb hHeldA
        (try simp only [Act.put, List.setIfInBounds_toArray, List.set_cons_zero, List.set_cons_succ])
        refine wpAnyH_take (i := 5) (oi := { dst := some 24, op := Op.unOp UnOp.not 4 (Operand.tmp 23), type := 4, pos := "pat.go:191", after := #[{ on := 4, ground := Ground.data }], guard := none }) (v := ?_) rfl (by kernel_rfl) (by kernel_rfl) (by kernel_rfl) (fun _ _ _ h => h) (Or.inl ⟨by rfl, ?hyA5⟩) (by assumption) ?_
        case hyA5 => (intro w hSw; (try dsimp only at hSw); go_simp; try with_reducible rfl)
        (try simp only [Act.put, List.setIfInBounds_toArray, List.set_cons_zero, List.set_cons_succ])
        refine wpAnyH_take (i := 6) (oi := { dst := some 25, op := Op.move (Operand.tmp 24), type := 4, pos := "pat.go:191", after := #[{ on := 5, ground := Ground.data }, { on := 4, ground := Ground.chain }], guard := none }) (v := ?_) rfl (by kernel_rfl) (by kernel_rfl) (by kernel_rfl) (fun _ _ _ h => h) (Or.inl ⟨by rfl, ?hyA6⟩) (by assumption) ?_
        case hyA6 => (intro w hSw; (try dsimp only at hSw); go_simp; try with_reducible rfl)
        (try simp only [Act.put, List.setIfInBounds_toArray, List.set_cons_zero, List.set_cons_succ])
        refine wpAnyH_take (i := 7) (oi := { dst := some 26, op := Op.fieldAddr 88 (Operand.tmp 6) 2, type := 0, pos := "pat.go:191", after := #[{ on := 6, ground := Ground.guard }], guard := some (6, false) }) (v := undef) rfl (by kernel_rfl) (by kernel_rfl) (by kernel_rfl) (fun _ _ _ h => h) (Or.inr ⟨by rfl, rfl⟩) (by assumption) ?_
        (try simp only [Act.put, List.setIfInBounds_toArray, List.set_cons_zero, List.set_cons_succ])
        refine wpAnyH_take (i := 8) (oi := { dst := some 27, op := Op.load 9 (Operand.tmp 26), type := 9, pos := "pat.go:191", after := #[{ on := 7, ground := Ground.data }, { on := 6, ground := Ground.guard }], guard := some (6, false) }) (v := undef) rfl (by kernel_rfl) (by kernel_rfl) (by kernel_rfl) (fun _ _ _ h => h) (Or.inr ⟨by rfl, rfl⟩) (by assumption) ?_
        (try simp only [Act.put, List.setIfInBounds_toArray, List.set_cons_zero, List.set_cons_succ])
        refine wpAnyH_take (i := 9) (oi := { dst := some 28, op := Op.binOp BinOp.eql 9 (Operand.tmp 27) (Operand.const (Value.string { data := #[] })) 9, type := 4, pos := "pat.go:191", after := #[{ on := 8, ground := Ground.data }, { on := 6, ground := Ground.guard }], guard := some (6, false) }) (v := undef) rfl (by kernel_rfl) (by kernel_rfl) (by kernel_rfl) (fun _ _ _ h => h) (Or.inr ⟨by rfl, rfl⟩) (by assumption) ?_
        (try simp only [Act.put, List.setIfInBounds_toArray, List.set_cons_zero, List.set_cons_succ])
        refine wpAnyH_take (i := 10) (oi := { dst := some 29, op := Op.move (Operand.tmp 28), type := 4, pos := "pat.go:191", after := #[{ on := 9, ground := Ground.data }, { on := 6, ground := Ground.chain }, { on := 6, ground := Ground.guard }], guard := some (6, false) }) (v := undef) rfl (by kernel_rfl) (by kernel_rfl) (by kernel_rfl) (fun _ _ _ h => h) (Or.inr ⟨by rfl, rfl⟩) (by assumption) ?_
        (try simp only [Act.put, List.setIfInBounds_toArray, List.set_cons_zero, List.set_cons_succ])
        refine wpAnyH_take (i := 11) (oi := { dst := some 30, op := Op.load 88 (Operand.tmp 6), type := 88, pos := "pat.go:191", after := #[{ on := 10, ground := Ground.guard }], guard := some (10, true) }) (v := undef) rfl (by kernel_rfl) (by kernel_rfl) (by kernel_rfl) (fun _ _ _ h => h) (Or.inr ⟨by rfl, rfl⟩) (by assumption) ?_
        (try simp only [Act.put, List.setIfInBounds_toArray, List.set_cons_zero, List.set_cons_succ])
        refine wpAnyH_take (i := 12) (oi := { dst := some 31, op := Op.fieldAddr 66 (Operand.tmp 3) 2, type := 0, pos := "pat.go:191", after := #[{ on := 10, ground := Ground.guard }], guard := some (10, true) }) (v := undef) rfl (by kernel_rfl) (by kernel_rfl) (by kernel_rfl) (fun _ _ _ h => h) (Or.inr ⟨by rfl, rfl⟩) (by assumption) ?_
        (try simp only [Act.put, List.setIfInBounds_toArray, List.set_cons_zero, List.set_cons_succ])
        refine wpAnyH_take (i := 13) (oi := { dst := some 32, op := Op.load 64 (Operand.tmp 31), type := 64, pos := "pat.go:191", after := #[{ on := 12, ground := Ground.data }, { on := 10, ground := Ground.guard }], guard := some (10, true) }) (v := undef) rfl (by kernel_rfl) (by kernel_rfl) (by kernel_rfl) (fun _ _ _ h => h) (Or.inr ⟨by rfl, rfl⟩) (by assumption) ?_
        (try simp only [Act.put, List.setIfInBounds_toArray, List.set_cons_zero, List.set_cons_succ])
        refine wpAnyH_take (i := 14) (oi := { dst := some 33, op := Op.fieldAddr 88 (Operand.tmp 6) 0, type := 0, pos := "pat.go:191", after := #[{ on := 10, ground := Ground.guard }], guard := some (10, true) }) (v := undef) rfl (by kernel_rfl) (by kernel_rfl) (by kernel_rfl) (fun _ _ _ h => h) (Or.inr ⟨by rfl, rfl⟩) (by assumption) ?_
        (try simp only [Act.put, List.setIfInBounds_toArray, List.set_cons_zero, List.set_cons_succ])
        refine wpAnyH_take (i := 15) (oi := { dst := some 34, op := Op.load 3 (Operand.tmp 33), type := 3, pos := "pat.go:191", after := #[{ on := 14, ground := Ground.data }, { on := 10, ground := Ground.guard }], guard := some (10, true) }) (v := undef) rfl (by kernel_rfl) (by kernel_rfl) (by kernel_rfl) (fun _ _ _ h => h) (Or.inr ⟨by rfl, rfl⟩) (by assumption) ?_
        (try simp only [Act.put, List.setIfInBounds_toArray, List.set_cons_zero, List.set_cons_succ])
        refine wpAnyH_take (i := 16) (oi := { dst := some 35, op := Op.indexAddr 64 (Operand.tmp 32) (Operand.tmp 34), type := 0, pos := "pat.go:191", after := #[{ on := 13, ground := Ground.data }, { on := 15, ground := Ground.data }, { on := 10, ground := Ground.guard }], guard := some (10, true) }) (v := undef) rfl (by kernel_rfl) (by kernel_rfl) (by kernel_rfl) (fun _ _ _ h => h) (Or.inr ⟨by rfl, rfl⟩) (by assumption) ?_
        (try simp only [Act.put, List.setIfInBounds_toArray, List.set_cons_zero, List.set_cons_succ])
        refine wpAnyH_take (i := 17) (oi := { dst := some 36, op := Op.load 71 (Operand.tmp 35), type := 71, pos := "pat.go:191", after := #[{ on := 16, ground := Ground.data }, { on := 10, ground := Ground.guard }], guard := some (10, true) }) (v := undef) rfl (by kernel_rfl) (by kernel_rfl) (by kernel_rfl) (fun _ _ _ h => h) (Or.inr ⟨by rfl, rfl⟩) (by assumption) ?_
        (try simp only [Act.put, List.setIfInBounds_toArray, List.set_cons_zero, List.set_cons_succ])
        refine wpAnyH_take (i := 18) (oi := { dst := some 37, op := Op.fieldAddr 88 (Operand.tmp 6) 3, type := 0, pos := "pat.go:191", after := #[{ on := 10, ground := Ground.guard }], guard := some (10, true) }) (v := undef) rfl (by kernel_rfl) (by kernel_rfl) (by kernel_rfl) (fun _ _ _ h => h) (Or.inr ⟨by rfl, rfl⟩) (by assumption) ?_
        (try simp only [Act.put, List.setIfInBounds_toArray, List.set_cons_zero, List.set_cons_succ])
        refine wpAnyH_take (i := 19) (oi := { dst := some 38, op := Op.load 71 (Operand.tmp 37), type := 71, pos := "pat.go:191", after := #[{ on := 18, ground := Ground.data }, { on := 10, ground := Ground.guard }], guard := some (10, true) }) (v := undef) rfl (by kernel_rfl) (by kernel_rfl) (by kernel_rfl) (fun _ _ _ h => h) (Or.inr ⟨by rfl, rfl⟩) (by assumption) ?_
        (try simp only [Act.put, List.setIfInBounds_toArray, List.set_cons_zero, List.set_cons_succ])
        refine wpAnyH_take (i := 20) (oi := { dst := some 39, op := Op.call { callee := Callee.value (Operand.func 71), args := #[Operand.tmp 30, Operand.tmp 36, Operand.tmp 38], argTypes := #[88, 71, 71] }, type := 4, pos := "pat.go:191", after := #[{ on := 11, ground := Ground.data }, { on := 17, ground := Ground.data }, { on := 19, ground := Ground.data }, { on := 10, ground := Ground.chain }, { on := 10, ground := Ground.guard }], guard := some (10, true) }) (v := undef) rfl (by kernel_rfl) (by kernel_rfl) (by kernel_rfl) (fun _ _ _ h => h) (Or.inr ⟨by rfl, rfl⟩) (by assumption) ?_
        (try simp only [Act.put, List.setIfInBounds_toArray, List.set_cons_zero, List.set_cons_succ])
        refine wpAnyH_take (i := 21) (oi := { dst := some 40, op := Op.unOp UnOp.not 4 (Operand.tmp 39), type := 4, pos := "pat.go:191", after := #[{ on := 20, ground := Ground.data }, { on := 10, ground := Ground.guard }], guard := some (10, true) }) (v := undef) rfl (by kernel_rfl) (by kernel_rfl) (by kernel_rfl) (fun _ _ _ h => h) (Or.inr ⟨by rfl, rfl⟩) (by assumption) ?_
        (try simp only [Act.put, List.setIfInBounds_toArray, List.set_cons_zero, List.set_cons_succ])
        refine wpAnyH_take (i := 22) (oi := { dst := some 41, op := Op.pick (Operand.tmp 29) (Operand.tmp 40) (Operand.const (Value.bool false)), type := 4, pos := "pat.go:191", after := #[{ on := 10, ground := Ground.data }, { on := 21, ground := Ground.data }, { on := 6, ground := Ground.guard }], guard := some (6, false) }) (v := undef) rfl (by kernel_rfl) (by kernel_rfl) (by kernel_rfl) (fun _ _ _ h => h) (Or.inr ⟨by rfl, rfl⟩) (by assumption) ?_
        (try simp only [Act.put, List.setIfInBounds_toArray, List.set_cons_zero, List.set_cons_succ])
        refine wpAnyH_take (i := 23) (oi := { dst := some 42, op := Op.pick (Operand.tmp 25) (Operand.const (Value.bool true)) (Operand.tmp 41), type := 4, pos := "pat.go:191", after := #[{ on := 6, ground := Ground.data }, { on := 22, ground := Ground.data }], guard := none }) (v := ?_) rfl (by kernel_rfl) (by kernel_rfl) (by kernel_rfl) (fun _ _ _ h => h) (Or.inl ⟨by rfl, ?hyA23⟩) (by assumption) ?_
        case hyA23 => (intro w hSw; (try dsimp only at hSw); go_simp; try with_reducible rfl)
        (try simp only [Act.put, List.setIfInBounds_toArray, List.set_cons_zero, List.set_cons_succ])
        refine wpAnyH_done (by kernel_rfl) ?_ _
        go_wp2
        go_ret
        exact ⟨rfl, hHeldAx.2.2.2.2.2.2.2.1⟩
      | true =>
        have hp : tp < N := of_decide_eq_true Hhv.out
        obtain ⟨v, hv⟩ : ∃ v, fl[tp]? = some v := ⟨_, List.getElem?_eq_getElem (by rw [HN.out]; exact hp)⟩
        have HV : Hid (fl[tp]? = some v) := hv
        by_cases hx : tv = noS
        case neg =>
          have he := isE_no hx
          have HA2 : Hid (∀ i t, i < k + 1 → pl[i]? = some t → aloneT fl t = true) := fun i t hi hit => by
            by_cases e : i = k
            · subst e; rw [HT.out] at hit; cases hit; exact aloneT_var HV.out hx
            · exact HA.out i t (by omega) hit
          clear hv hx HA HT Hhv
          go_wp2
          rw [HW2.out, HBT.out]
          clear HW2 HBT
          refine wp_region_held_drew (S := (fun w' => w'.cell? ⟨w.heap.size + 1, 2, none⟩ = some (.slice fo N fc) ∧ w'.cell? ⟨BT, 0, none⟩ = some (.int .i64 (tp : Int)) ∧ w'.cell? ⟨BT, 1, none⟩ = some (.bool tn) ∧ w'.cell? ⟨BT, 2, none⟩ = some (.string tv) ∧ w'.cell? ⟨BT, 3, none⟩ = some (.int .i64 tk) ∧ w'.cell? ⟨BT, 4, none⟩ = some (.int .i64 ti) ∧ w'.cell? ⟨BT, 5, none⟩ = some (.string ts) ∧ Below w.heap.size w w' ∧ w.heap.size ≤ w'.heap.size)) (by kernel_rfl) ?_ (fun hHeldB => ?_)
          · exact ⟨y2, t0, t1, t2, t3, t4, t5, HB2.out.drew, HB2.out.drew.size⟩
          refine wpAnyH_take (i := 0) (oi := { dst := some 19, op := Op.fieldAddr 66 (Operand.tmp 3) 2, type := 0, pos := "pat.go:191", after := #[], guard := none }) (v := ?_) rfl (by kernel_rfl) (by kernel_rfl) (by kernel_rfl) (fun _ _ _ h => h) (Or.inl ⟨by rfl, ?hyB0⟩) (by assumption) ?_
          case hyB0 => (intro w hSw; (try dsimp only at hSw); go_simp; try with_reducible rfl)
          (try simp only [Act.put, List.setIfInBounds_toArray, List.set_cons_zero, List.set_cons_succ])
          refine wpAnyH_take (i := 1) (oi := { dst := some 20, op := Op.load 64 (Operand.tmp 19), type := 64, pos := "pat.go:191", after := #[{ on := 0, ground := Ground.data }], guard := none }) (v := ?_) rfl (by kernel_rfl) (by kernel_rfl) (by kernel_rfl) (fun _ _ _ h => h) (Or.inl ⟨by rfl, ?hyB1⟩) (by assumption) ?_
          case hyB1 => (intro w hSw; (try dsimp only at hSw); go_simp; try with_reducible rfl)
          (try simp only [Act.put, List.setIfInBounds_toArray, List.set_cons_zero, List.set_cons_succ])
          refine wpAnyH_take (i := 2) (oi := { dst := some 21, op := Op.fieldAddr 88 (Operand.tmp 6) 0, type := 0, pos := "pat.go:191", after := #[], guard := none }) (v := ?_) rfl (by kernel_rfl) (by kernel_rfl) (by kernel_rfl) (fun _ _ _ h => h) (Or.inl ⟨by rfl, ?hyB2⟩) (by assumption) ?_
          case hyB2 => (intro w hSw; (try dsimp only at hSw); go_simp; try with_reducible rfl)
          (try simp only [Act.put, List.setIfInBounds_toArray, List.set_cons_zero, List.set_cons_succ])
          refine wpAnyH_take (i := 3) (oi := { dst := some 22, op := Op.load 3 (Operand.tmp 21), type := 3, pos := "pat.go:191", after := #[{ on := 2, ground := Ground.data }], guard := none }) (v := ?_) rfl (by kernel_rfl) (by kernel_rfl) (by kernel_rfl) (fun _ _ _ h => h) (Or.inl ⟨by rfl, ?hyB3⟩) (by assumption) ?_
          case hyB3 => (intro w hSw; (try dsimp only at hSw); go_simp; try with_reducible rfl)
          (try simp only [Act.put, List.setIfInBounds_toArray, List.set_cons_zero, List.set_cons_succ])
          refine wpAnyH_ready (rs := [4]) (by kernel_rfl) (by simp) ?_
          refine AllReadyH.cons (o := { dst := some 23, op := Op.call { callee := Callee.value (Operand.func 73), args := #[Operand.tmp 20, Operand.tmp 22], argTypes := #[64, 3] }, type := 4, pos := "pat.go:191", after := #[{ on := 1, ground := Ground.data }, { on := 3, ground := Ground.data }], guard := none }) rfl (fun K hK => ?_) AllReadyH.nil
          go_simp
          with_reducible refine (HHas.out _).mono ?_
          rintro e w' ⟨rfl, hb⟩
          refine hK.out _ _ ?_ (fun hHeldBx => ?_)
          · obtain ⟨q0, q1, q2, q3, q4, q5, q6, q7, q8⟩ := hHeldB
            exact ⟨keep_cell hb q0, keep_cell hb q1, keep_cell hb q2, keep_cell hb q3, keep_cell hb q4, keep_cell hb q5, keep_cell hb q6, below_next q7 hb q8, le_next q8 hb⟩
          clear hK K hb hHeldB
          (try simp only [Act.put, List.setIfInBounds_toArray, List.set_cons_zero, List.set_cons_succ])
          refine wpAnyH_take (i := 5) (oi := { dst := some 24, op := Op.unOp UnOp.not 4 (Operand.tmp 23), type := 4, pos := "pat.go:191", after := #[{ on := 4, ground := Ground.data }], guard := none }) (v := ?_) rfl (by kernel_rfl) (by kernel_rfl) (by kernel_rfl) (fun _ _ _ h => h) (Or.inl ⟨by rfl, ?hyB5⟩) (by assumption) ?_
          case hyB5 => (intro w hSw; (try dsimp only at hSw); go_simp; try with_reducible rfl)
          (try simp only [Act.put, List.setIfInBounds_toArray, List.set_cons_zero, List.set_cons_succ])
          refine wpAnyH_take (i := 6) (oi := { dst := some 25, op := Op.move (Operand.tmp 24), type := 4, pos := "pat.go:191", after := #[{ on := 5, ground := Ground.data }, { on := 4, ground := Ground.chain }], guard := none }) (v := ?_) rfl (by kernel_rfl) (by kernel_rfl) (by kernel_rfl) (fun _ _ _ h => h) (Or.inl ⟨by rfl, ?hyB6⟩) (by assumption) ?_
          case hyB6 => (intro w hSw; (try dsimp only at hSw); go_simp; try with_reducible rfl)
          (try simp only [Act.put, List.setIfInBounds_toArray, List.set_cons_zero, List.set_cons_succ])
          refine wpAnyH_take (i := 7) (oi := { dst := some 26, op := Op.fieldAddr 88 (Operand.tmp 6) 2, type := 0, pos := "pat.go:191", after := #[{ on := 6, ground := Ground.guard }], guard := some (6, false) }) (v := ?_) rfl (by kernel_rfl) (by kernel_rfl) (by kernel_rfl) (fun _ _ _ h => h) (Or.inl ⟨by rfl, ?hyB7⟩) (by assumption) ?_
          case hyB7 => (intro w hSw; (try dsimp only at hSw); go_simp; try with_reducible rfl)
          (try simp only [Act.put, List.setIfInBounds_toArray, List.set_cons_zero, List.set_cons_succ])
          refine wpAnyH_take (i := 8) (oi := { dst := some 27, op := Op.load 9 (Operand.tmp 26), type := 9, pos := "pat.go:191", after := #[{ on := 7, ground := Ground.data }, { on := 6, ground := Ground.guard }], guard := some (6, false) }) (v := ?_) rfl (by kernel_rfl) (by kernel_rfl) (by kernel_rfl) (fun _ _ _ h => h) (Or.inl ⟨by rfl, ?hyB8⟩) (by assumption) ?_
          case hyB8 => (intro w hSw; (try dsimp only at hSw); go_simp; try with_reducible rfl)
          (try simp only [Act.put, List.setIfInBounds_toArray, List.set_cons_zero, List.set_cons_succ])
          refine wpAnyH_take (i := 9) (oi := { dst := some 28, op := Op.binOp BinOp.eql 9 (Operand.tmp 27) (Operand.const (Value.string { data := #[] })) 9, type := 4, pos := "pat.go:191", after := #[{ on := 8, ground := Ground.data }, { on := 6, ground := Ground.guard }], guard := some (6, false) }) (v := ?_) rfl (by kernel_rfl) (by kernel_rfl) (by kernel_rfl) (fun _ _ _ h => h) (Or.inl ⟨by rfl, ?hyB9⟩) (by assumption) ?_
          case hyB9 => (intro w hSw; (try dsimp only at hSw); go_simp; try with_reducible rfl)
          (try simp only [Act.put, List.setIfInBounds_toArray, List.set_cons_zero, List.set_cons_succ])
          refine wpAnyH_take (i := 10) (oi := { dst := some 29, op := Op.move (Operand.tmp 28), type := 4, pos := "pat.go:191", after := #[{ on := 9, ground := Ground.data }, { on := 6, ground := Ground.chain }, { on := 6, ground := Ground.guard }], guard := some (6, false) }) (v := ?_) rfl (by kernel_rfl) (by kernel_rfl) (by kernel_rfl) (fun _ _ _ h => h) (Or.inl ⟨by rfl, ?hyB10⟩) (by assumption) ?_
          case hyB10 => (intro w hSw; (try dsimp only at hSw); go_simp; try with_reducible rfl)
          (try simp only [Act.put, List.setIfInBounds_toArray, List.set_cons_zero, List.set_cons_succ])
          refine wpAnyH_take (i := 11) (oi := { dst := some 30, op := Op.load 88 (Operand.tmp 6), type := 88, pos := "pat.go:191", after := #[{ on := 10, ground := Ground.guard }], guard := some (10, true) }) (v := undef) rfl (by kernel_rfl) (by kernel_rfl) (by kernel_rfl) (fun _ _ _ h => h) (Or.inr ⟨by rfl, rfl⟩) (by assumption) ?_
          (try simp only [Act.put, List.setIfInBounds_toArray, List.set_cons_zero, List.set_cons_succ])
          refine wpAnyH_take (i := 12) (oi := { dst := some 31, op := Op.fieldAddr 66 (Operand.tmp 3) 2, type := 0, pos := "pat.go:191", after := #[{ on := 10, ground := Ground.guard }], guard := some (10, true) }) (v := undef) rfl (by kernel_rfl) (by kernel_rfl) (by kernel_rfl) (fun _ _ _ h => h) (Or.inr ⟨by rfl, rfl⟩) (by assumption) ?_
          (try simp only [Act.put, List.setIfInBounds_toArray, List.set_cons_zero, List.set_cons_succ])
          refine wpAnyH_take (i := 13) (oi := { dst := some 32, op := Op.load 64 (Operand.tmp 31), type := 64, pos := "pat.go:191", after := #[{ on := 12, ground := Ground.data }, { on := 10, ground := Ground.guard }], guard := some (10, true) }) (v := undef) rfl (by kernel_rfl) (by kernel_rfl) (by kernel_rfl) (fun _ _ _ h => h) (Or.inr ⟨by rfl, rfl⟩) (by assumption) ?_
          (try simp only [Act.put, List.setIfInBounds_toArray, List.set_cons_zero, List.set_cons_succ])
          refine wpAnyH_take (i := 14) (oi := { dst := some 33, op := Op.fieldAddr 88 (Operand.tmp 6) 0, type := 0, pos := "pat.go:191", after := #[{ on := 10, ground := Ground.guard }], guard := some (10, true) }) (v := undef) rfl (by kernel_rfl) (by kernel_rfl) (by kernel_rfl) (fun _ _ _ h => h) (Or.inr ⟨by rfl, rfl⟩) (by assumption) ?_
          (try simp only [Act.put, List.setIfInBounds_toArray, List.set_cons_zero, List.set_cons_succ])
          refine wpAnyH_take (i := 15) (oi := { dst := some 34, op := Op.load 3 (Operand.tmp 33), type := 3, pos := "pat.go:191", after := #[{ on := 14, ground := Ground.data }, { on := 10, ground := Ground.guard }], guard := some (10, true) }) (v := undef) rfl (by kernel_rfl) (by kernel_rfl) (by kernel_rfl) (fun _ _ _ h => h) (Or.inr ⟨by rfl, rfl⟩) (by assumption) ?_
          (try simp only [Act.put, List.setIfInBounds_toArray, List.set_cons_zero, List.set_cons_succ])
          refine wpAnyH_take (i := 16) (oi := { dst := some 35, op := Op.indexAddr 64 (Operand.tmp 32) (Operand.tmp 34), type := 0, pos := "pat.go:191", after := #[{ on := 13, ground := Ground.data }, { on := 15, ground := Ground.data }, { on := 10, ground := Ground.guard }], guard := some (10, true) }) (v := undef) rfl (by kernel_rfl) (by kernel_rfl) (by kernel_rfl) (fun _ _ _ h => h) (Or.inr ⟨by rfl, rfl⟩) (by assumption) ?_
          (try simp only [Act.put, List.setIfInBounds_toArray, List.set_cons_zero, List.set_cons_succ])
          refine wpAnyH_take (i := 17) (oi := { dst := some 36, op := Op.load 71 (Operand.tmp 35), type := 71, pos := "pat.go:191", after := #[{ on := 16, ground := Ground.data }, { on := 10, ground := Ground.guard }], guard := some (10, true) }) (v := undef) rfl (by kernel_rfl) (by kernel_rfl) (by kernel_rfl) (fun _ _ _ h => h) (Or.inr ⟨by rfl, rfl⟩) (by assumption) ?_
          (try simp only [Act.put, List.setIfInBounds_toArray, List.set_cons_zero, List.set_cons_succ])
          refine wpAnyH_take (i := 18) (oi := { dst := some 37, op := Op.fieldAddr 88 (Operand.tmp 6) 3, type := 0, pos := "pat.go:191", after := #[{ on := 10, ground := Ground.guard }], guard := some (10, true) }) (v := undef) rfl (by kernel_rfl) (by kernel_rfl) (by kernel_rfl) (fun _ _ _ h => h) (Or.inr ⟨by rfl, rfl⟩) (by assumption) ?_
          (try simp only [Act.put, List.setIfInBounds_toArray, List.set_cons_zero, List.set_cons_succ])
          refine wpAnyH_take (i := 19) (oi := { dst := some 38, op := Op.load 71 (Operand.tmp 37), type := 71, pos := "pat.go:191", after := #[{ on := 18, ground := Ground.data }, { on := 10, ground := Ground.guard }], guard := some (10, true) }) (v := undef) rfl (by kernel_rfl) (by kernel_rfl) (by kernel_rfl) (fun _ _ _ h => h) (Or.inr ⟨by rfl, rfl⟩) (by assumption) ?_
          (try simp only [Act.put, List.setIfInBounds_toArray, List.set_cons_zero, List.set_cons_succ])
          refine wpAnyH_take (i := 20) (oi := { dst := some 39, op := Op.call { callee := Callee.value (Operand.func 71), args := #[Operand.tmp 30, Operand.tmp 36, Operand.tmp 38], argTypes := #[88, 71, 71] }, type := 4, pos := "pat.go:191", after := #[{ on := 11, ground := Ground.data }, { on := 17, ground := Ground.data }, { on := 19, ground := Ground.data }, { on := 10, ground := Ground.chain }, { on := 10, ground := Ground.guard }], guard := some (10, true) }) (v := undef) rfl (by kernel_rfl) (by kernel_rfl) (by kernel_rfl) (fun _ _ _ h => h) (Or.inr ⟨by rfl, rfl⟩) (by assumption) ?_
          (try simp only [Act.put, List.setIfInBounds_toArray, List.set_cons_zero, List.set_cons_succ])
          refine wpAnyH_take (i := 21) (oi := { dst := some 40, op := Op.unOp UnOp.not 4 (Operand.tmp 39), type := 4, pos := "pat.go:191", after := #[{ on := 20, ground := Ground.data }, { on := 10, ground := Ground.guard }], guard := some (10, true) }) (v := undef) rfl (by kernel_rfl) (by kernel_rfl) (by kernel_rfl) (fun _ _ _ h => h) (Or.inr ⟨by rfl, rfl⟩) (by assumption) ?_
          (try simp only [Act.put, List.setIfInBounds_toArray, List.set_cons_zero, List.set_cons_succ])
          refine wpAnyH_take (i := 22) (oi := { dst := some 41, op := Op.pick (Operand.tmp 29) (Operand.tmp 40) (Operand.const (Value.bool false)), type := 4, pos := "pat.go:191", after := #[{ on := 10, ground := Ground.data }, { on := 21, ground := Ground.data }, { on := 6, ground := Ground.guard }], guard := some (6, false) }) (v := ?_) rfl (by kernel_rfl) (by kernel_rfl) (by kernel_rfl) (fun _ _ _ h => h) (Or.inl ⟨by rfl, ?hyB22⟩) (by assumption) ?_
          case hyB22 => (intro w hSw; (try dsimp only at hSw); go_simp; try with_reducible rfl)
          (try simp only [Act.put, List.setIfInBounds_toArray, List.set_cons_zero, List.set_cons_succ])
          refine wpAnyH_take (i := 23) (oi := { dst := some 42, op := Op.pick (Operand.tmp 25) (Operand.const (Value.bool true)) (Operand.tmp 41), type := 4, pos := "pat.go:191", after := #[{ on := 6, ground := Ground.data }, { on := 22, ground := Ground.data }], guard := none }) (v := ?_) rfl (by kernel_rfl) (by kernel_rfl) (by kernel_rfl) (fun _ _ _ h => h) (Or.inl ⟨by rfl, ?hyB23⟩) (by assumption) ?_
          case hyB23 => (intro w hSw; (try dsimp only at hSw); go_simp; try with_reducible rfl)
          (try simp only [Act.put, List.setIfInBounds_toArray, List.set_cons_zero, List.set_cons_succ])
          refine wpAnyH_done (by kernel_rfl) ?_ _
          obtain ⟨hy5, _, _, _, _, _, _, hb5, _⟩ := hHeldBx
          have HB5 : Hid (Below w.heap.size w w') := hb5
          have HY5 : Hid (w'.cell? ⟨w.heap.size + 1, 2, none⟩ = some (.slice fo N fc)) := hy5
          clear hb5 hy5
          go_wp2
          go_roundw
          case rel => exact ⟨k + 1, by omega, by go_num, HB5, HY5, HA2⟩
          case measure => simp [intOf]; omega
        have he := isE_yes hx
        obtain ⟨vb, vo, rfl, v0, v1, v2⟩ := (HVs.out.next HB2.out) tp v hv
        obtain ⟨vk, vi, vs⟩ := v
        simp only at v0 v1 v2
        obtain ⟨hh, Hhh⟩ : ∃ hh, Hid (holdT ⟨tp, tn, tv, tk, ti, ts⟩ vk vi vs tk ti ts = hh) := ⟨_, rfl⟩
        have HHo : Hid (∀ w', Calls Tryz.prog 71 #[.agg #[.int .i64 (tp : Int), .bool tn, .string tv, .int .i64 tk, .int .i64 ti, .string ts], .agg #[.int .i64 (vk), .int .i64 (vi), .string (vs)], .agg #[.int .i64 (tk), .int .i64 (ti), .string (ts)]] w' fun e w2 => e = .returned (.bool hh) ∧ Below w'.heap.size w' w2) := by
          intro w'; rw [← Hhh.out]; exact holds_any tp tn tv tk ti ts vk vi vs tk ti ts w'
        have HAt : Hid (aloneT fl ⟨tp, tn, tv, tk, ti, ts⟩ = hh) := by rw [Hid, ← Hhh.out]; exact aloneT_val (t := ⟨tp, tn, tv, tk, ti, ts⟩) HV.out hx
        clear hv hx Hhv Hhh
        cases hh with
        | false =>
          obtain rfl : R = false := by rw [← HRl.out]; exact aloneL_no HT.out HAt.out
          clear HA HT HRl
          go_wp2
          rw [HW2.out, HBT.out]
          clear HW2 HBT
          refine wp_region_held_drew (S := (fun w' => w'.cell? ⟨w.heap.size + 1, 2, none⟩ = some (.slice (some ⟨vb, vo, none⟩) N fc) ∧ w'.cell? ⟨BT, 0, none⟩ = some (.int .i64 (tp : Int)) ∧ w'.cell? ⟨BT, 1, none⟩ = some (.bool tn) ∧ w'.cell? ⟨BT, 2, none⟩ = some (.string tv) ∧ w'.cell? ⟨BT, 3, none⟩ = some (.int .i64 tk) ∧ w'.cell? ⟨BT, 4, none⟩ = some (.int .i64 ti) ∧ w'.cell? ⟨BT, 5, none⟩ = some (.string ts) ∧ w'.cell? ⟨vb, vo + tp * 3, none⟩ = some (.int .i64 vk) ∧ w'.cell? ⟨vb, vo + tp * 3 + 1, none⟩ = some (.int .i64 vi) ∧ w'.cell? ⟨vb, vo + tp * 3 + 2, none⟩ = some (.string vs) ∧ Below w.heap.size w w' ∧ w.heap.size ≤ w'.heap.size)) (by kernel_rfl) ?_ (fun hHeldC => ?_)
          · exact ⟨y2, t0, t1, t2, t3, t4, t5, v0, v1, v2, HB2.out.drew, HB2.out.drew.size⟩
          refine wpAnyH_take (i := 0) (oi := { dst := some 19, op := Op.fieldAddr 66 (Operand.tmp 3) 2, type := 0, pos := "pat.go:191", after := #[], guard := none }) (v := ?_) rfl (by kernel_rfl) (by kernel_rfl) (by kernel_rfl) (fun _ _ _ h => h) (Or.inl ⟨by rfl, ?hyC0⟩) (by assumption) ?_
          case hyC0 => (intro w hSw; (try dsimp only at hSw); go_simp; try with_reducible rfl)
          (try simp only [Act.put, List.setIfInBounds_toArray, List.set_cons_zero, List.set_cons_succ])
          refine wpAnyH_take (i := 1) (oi := { dst := some 20, op := Op.load 64 (Operand.tmp 19), type := 64, pos := "pat.go:191", after := #[{ on := 0, ground := Ground.data }], guard := none }) (v := ?_) rfl (by kernel_rfl) (by kernel_rfl) (by kernel_rfl) (fun _ _ _ h => h) (Or.inl ⟨by rfl, ?hyC1⟩) (by assumption) ?_
          case hyC1 => (intro w hSw; (try dsimp only at hSw); go_simp; try with_reducible rfl)
          (try simp only [Act.put, List.setIfInBounds_toArray, List.set_cons_zero, List.set_cons_succ])
          refine wpAnyH_take (i := 2) (oi := { dst := some 21, op := Op.fieldAddr 88 (Operand.tmp 6) 0, type := 0, pos := "pat.go:191", after := #[], guard := none }) (v := ?_) rfl (by kernel_rfl) (by kernel_rfl) (by kernel_rfl) (fun _ _ _ h => h) (Or.inl ⟨by rfl, ?hyC2⟩) (by assumption) ?_
          case hyC2 => (intro w hSw; (try dsimp only at hSw); go_simp; try with_reducible rfl)
          (try simp only [Act.put, List.setIfInBounds_toArray, List.set_cons_zero, List.set_cons_succ])
          refine wpAnyH_take (i := 3) (oi := { dst := some 22, op := Op.load 3 (Operand.tmp 21), type := 3, pos := "pat.go:191", after := #[{ on := 2, ground := Ground.data }], guard := none }) (v := ?_) rfl (by kernel_rfl) (by kernel_rfl) (by kernel_rfl) (fun _ _ _ h => h) (Or.inl ⟨by rfl, ?hyC3⟩) (by assumption) ?_
          case hyC3 => (intro w hSw; (try dsimp only at hSw); go_simp; try with_reducible rfl)
          (try simp only [Act.put, List.setIfInBounds_toArray, List.set_cons_zero, List.set_cons_succ])
          refine wpAnyH_ready (rs := [4]) (by kernel_rfl) (by simp) ?_
          refine AllReadyH.cons (o := { dst := some 23, op := Op.call { callee := Callee.value (Operand.func 73), args := #[Operand.tmp 20, Operand.tmp 22], argTypes := #[64, 3] }, type := 4, pos := "pat.go:191", after := #[{ on := 1, ground := Ground.data }, { on := 3, ground := Ground.data }], guard := none }) rfl (fun K hK => ?_) AllReadyH.nil
          go_simp
          with_reducible refine (HHas.out _).mono ?_
          rintro e w' ⟨rfl, hb⟩
          refine hK.out _ _ ?_ (fun hHeldCx => ?_)
          · obtain ⟨q0, q1, q2, q3, q4, q5, q6, q7, q8, q9, q10, q11⟩ := hHeldC
            exact ⟨keep_cell hb q0, keep_cell hb q1, keep_cell hb q2, keep_cell hb q3, keep_cell hb q4, keep_cell hb q5, keep_cell hb q6, keep_cell hb q7, keep_cell hb q8, keep_cell hb q9, below_next q10 hb q11, le_next q11 hb⟩
          clear hK K hb hHeldC
          (try simp only [Act.put, List.setIfInBounds_toArray, List.set_cons_zero, List.set_cons_succ])
          refine wpAnyH_take (i := 5) (oi := { dst := some 24, op := Op.unOp UnOp.not 4 (Operand.tmp 23), type := 4, pos := "pat.go:191", after := #[{ on := 4, ground := Ground.data }], guard := none }) (v := ?_) rfl (by kernel_rfl) (by kernel_rfl) (by kernel_rfl) (fun _ _ _ h => h) (Or.inl ⟨by rfl, ?hyC5⟩) (by assumption) ?_
          case hyC5 => (intro w hSw; (try dsimp only at hSw); go_simp; try with_reducible rfl)
          (try simp only [Act.put, List.setIfInBounds_toArray, List.set_cons_zero, List.set_cons_succ])
          refine wpAnyH_take (i := 6) (oi := { dst := some 25, op := Op.move (Operand.tmp 24), type := 4, pos := "pat.go:191", after := #[{ on := 5, ground := Ground.data }, { on := 4, ground := Ground.chain }], guard := none }) (v := ?_) rfl (by kernel_rfl) (by kernel_rfl) (by kernel_rfl) (fun _ _ _ h => h) (Or.inl ⟨by rfl, ?hyC6⟩) (by assumption) ?_
          case hyC6 => (intro w hSw; (try dsimp only at hSw); go_simp; try with_reducible rfl)
          (try simp only [Act.put, List.setIfInBounds_toArray, List.set_cons_zero, List.set_cons_succ])
          refine wpAnyH_take (i := 7) (oi := { dst := some 26, op := Op.fieldAddr 88 (Operand.tmp 6) 2, type := 0, pos := "pat.go:191", after := #[{ on := 6, ground := Ground.guard }], guard := some (6, false) }) (v := ?_) rfl (by kernel_rfl) (by kernel_rfl) (by kernel_rfl) (fun _ _ _ h => h) (Or.inl ⟨by rfl, ?hyC7⟩) (by assumption) ?_
          case hyC7 => (intro w hSw; (try dsimp only at hSw); go_simp; try with_reducible rfl)
          (try simp only [Act.put, List.setIfInBounds_toArray, List.set_cons_zero, List.set_cons_succ])
          refine wpAnyH_take (i := 8) (oi := { dst := some 27, op := Op.load 9 (Operand.tmp 26), type := 9, pos := "pat.go:191", after := #[{ on := 7, ground := Ground.data }, { on := 6, ground := Ground.guard }], guard := some (6, false) }) (v := ?_) rfl (by kernel_rfl) (by kernel_rfl) (by kernel_rfl) (fun _ _ _ h => h) (Or.inl ⟨by rfl, ?hyC8⟩) (by assumption) ?_
          case hyC8 => (intro w hSw; (try dsimp only at hSw); go_simp; try with_reducible rfl)
          (try simp only [Act.put, List.setIfInBounds_toArray, List.set_cons_zero, List.set_cons_succ])
          refine wpAnyH_take (i := 9) (oi := { dst := some 28, op := Op.binOp BinOp.eql 9 (Operand.tmp 27) (Operand.const (Value.string { data := #[] })) 9, type := 4, pos := "pat.go:191", after := #[{ on := 8, ground := Ground.data }, { on := 6, ground := Ground.guard }], guard := some (6, false) }) (v := ?_) rfl (by kernel_rfl) (by kernel_rfl) (by kernel_rfl) (fun _ _ _ h => h) (Or.inl ⟨by rfl, ?hyC9⟩) (by assumption) ?_
          case hyC9 => (intro w hSw; (try dsimp only at hSw); go_simp; try with_reducible rfl)
          (try simp only [Act.put, List.setIfInBounds_toArray, List.set_cons_zero, List.set_cons_succ])
          refine wpAnyH_take (i := 10) (oi := { dst := some 29, op := Op.move (Operand.tmp 28), type := 4, pos := "pat.go:191", after := #[{ on := 9, ground := Ground.data }, { on := 6, ground := Ground.chain }, { on := 6, ground := Ground.guard }], guard := some (6, false) }) (v := ?_) rfl (by kernel_rfl) (by kernel_rfl) (by kernel_rfl) (fun _ _ _ h => h) (Or.inl ⟨by rfl, ?hyC10⟩) (by assumption) ?_
          case hyC10 => (intro w hSw; (try dsimp only at hSw); go_simp; try with_reducible rfl)
          (try simp only [Act.put, List.setIfInBounds_toArray, List.set_cons_zero, List.set_cons_succ])
          refine wpAnyH_take (i := 11) (oi := { dst := some 30, op := Op.load 88 (Operand.tmp 6), type := 88, pos := "pat.go:191", after := #[{ on := 10, ground := Ground.guard }], guard := some (10, true) }) (v := ?_) rfl (by kernel_rfl) (by kernel_rfl) (by kernel_rfl) (fun _ _ _ h => h) (Or.inl ⟨by rfl, ?hyC11⟩) (by assumption) ?_
          case hyC11 => (intro w hSw; (try dsimp only at hSw); go_simp; try with_reducible rfl)
          (try simp only [Act.put, List.setIfInBounds_toArray, List.set_cons_zero, List.set_cons_succ])
          refine wpAnyH_take (i := 12) (oi := { dst := some 31, op := Op.fieldAddr 66 (Operand.tmp 3) 2, type := 0, pos := "pat.go:191", after := #[{ on := 10, ground := Ground.guard }], guard := some (10, true) }) (v := ?_) rfl (by kernel_rfl) (by kernel_rfl) (by kernel_rfl) (fun _ _ _ h => h) (Or.inl ⟨by rfl, ?hyC12⟩) (by assumption) ?_
          case hyC12 => (intro w hSw; (try dsimp only at hSw); go_simp; try with_reducible rfl)
          (try simp only [Act.put, List.setIfInBounds_toArray, List.set_cons_zero, List.set_cons_succ])
          refine wpAnyH_take (i := 13) (oi := { dst := some 32, op := Op.load 64 (Operand.tmp 31), type := 64, pos := "pat.go:191", after := #[{ on := 12, ground := Ground.data }, { on := 10, ground := Ground.guard }], guard := some (10, true) }) (v := ?_) rfl (by kernel_rfl) (by kernel_rfl) (by kernel_rfl) (fun _ _ _ h => h) (Or.inl ⟨by rfl, ?hyC13⟩) (by assumption) ?_
          case hyC13 => (intro w hSw; (try dsimp only at hSw); go_simp; try with_reducible rfl)
          (try simp only [Act.put, List.setIfInBounds_toArray, List.set_cons_zero, List.set_cons_succ])
          refine wpAnyH_take (i := 14) (oi := { dst := some 33, op := Op.fieldAddr 88 (Operand.tmp 6) 0, type := 0, pos := "pat.go:191", after := #[{ on := 10, ground := Ground.guard }], guard := some (10, true) }) (v := ?_) rfl (by kernel_rfl) (by kernel_rfl) (by kernel_rfl) (fun _ _ _ h => h) (Or.inl ⟨by rfl, ?hyC14⟩) (by assumption) ?_
          case hyC14 => (intro w hSw; (try dsimp only at hSw); go_simp; try with_reducible rfl)
          (try simp only [Act.put, List.setIfInBounds_toArray, List.set_cons_zero, List.set_cons_succ])
          refine wpAnyH_take (i := 15) (oi := { dst := some 34, op := Op.load 3 (Operand.tmp 33), type := 3, pos := "pat.go:191", after := #[{ on := 14, ground := Ground.data }, { on := 10, ground := Ground.guard }], guard := some (10, true) }) (v := ?_) rfl (by kernel_rfl) (by kernel_rfl) (by kernel_rfl) (fun _ _ _ h => h) (Or.inl ⟨by rfl, ?hyC15⟩) (by assumption) ?_
          case hyC15 => (intro w hSw; (try dsimp only at hSw); go_simp; try with_reducible rfl)
          (try simp only [Act.put, List.setIfInBounds_toArray, List.set_cons_zero, List.set_cons_succ])
          refine wpAnyH_take (i := 16) (oi := { dst := some 35, op := Op.indexAddr 64 (Operand.tmp 32) (Operand.tmp 34), type := 0, pos := "pat.go:191", after := #[{ on := 13, ground := Ground.data }, { on := 15, ground := Ground.data }, { on := 10, ground := Ground.guard }], guard := some (10, true) }) (v := ?_) rfl (by kernel_rfl) (by kernel_rfl) (by kernel_rfl) (fun _ _ _ h => h) (Or.inl ⟨by rfl, ?hyC16⟩) (by assumption) ?_
          case hyC16 => (intro w hSw; (try dsimp only at hSw); go_simp; try with_reducible rfl)
          (try simp only [Act.put, List.setIfInBounds_toArray, List.set_cons_zero, List.set_cons_succ])
          refine wpAnyH_take (i := 17) (oi := { dst := some 36, op := Op.load 71 (Operand.tmp 35), type := 71, pos := "pat.go:191", after := #[{ on := 16, ground := Ground.data }, { on := 10, ground := Ground.guard }], guard := some (10, true) }) (v := ?_) rfl (by kernel_rfl) (by kernel_rfl) (by kernel_rfl) (fun _ _ _ h => h) (Or.inl ⟨by rfl, ?hyC17⟩) (by assumption) ?_
          case hyC17 => (intro w hSw; (try dsimp only at hSw); go_simp; try with_reducible rfl)
          (try simp only [Act.put, List.setIfInBounds_toArray, List.set_cons_zero, List.set_cons_succ])
          refine wpAnyH_take (i := 18) (oi := { dst := some 37, op := Op.fieldAddr 88 (Operand.tmp 6) 3, type := 0, pos := "pat.go:191", after := #[{ on := 10, ground := Ground.guard }], guard := some (10, true) }) (v := ?_) rfl (by kernel_rfl) (by kernel_rfl) (by kernel_rfl) (fun _ _ _ h => h) (Or.inl ⟨by rfl, ?hyC18⟩) (by assumption) ?_
          case hyC18 => (intro w hSw; (try dsimp only at hSw); go_simp; try with_reducible rfl)
          (try simp only [Act.put, List.setIfInBounds_toArray, List.set_cons_zero, List.set_cons_succ])
          refine wpAnyH_take (i := 19) (oi := { dst := some 38, op := Op.load 71 (Operand.tmp 37), type := 71, pos := "pat.go:191", after := #[{ on := 18, ground := Ground.data }, { on := 10, ground := Ground.guard }], guard := some (10, true) }) (v := ?_) rfl (by kernel_rfl) (by kernel_rfl) (by kernel_rfl) (fun _ _ _ h => h) (Or.inl ⟨by rfl, ?hyC19⟩) (by assumption) ?_
          case hyC19 => (intro w hSw; (try dsimp only at hSw); go_simp; try with_reducible rfl)
          (try simp only [Act.put, List.setIfInBounds_toArray, List.set_cons_zero, List.set_cons_succ])
          refine wpAnyH_ready (rs := [20]) (by kernel_rfl) (by simp) ?_
          refine AllReadyH.cons (o := { dst := some 39, op := Op.call { callee := Callee.value (Operand.func 71), args := #[Operand.tmp 30, Operand.tmp 36, Operand.tmp 38], argTypes := #[88, 71, 71] }, type := 4, pos := "pat.go:191", after := #[{ on := 11, ground := Ground.data }, { on := 17, ground := Ground.data }, { on := 19, ground := Ground.data }, { on := 10, ground := Ground.chain }, { on := 10, ground := Ground.guard }], guard := some (10, true) }) rfl (fun K hK => ?_) AllReadyH.nil
          go_simp
          with_reducible refine (HHo.out _).mono ?_
          rintro e w' ⟨rfl, hb⟩
          refine hK.out _ _ ?_ (fun hHeldCxx => ?_)
          · obtain ⟨q0, q1, q2, q3, q4, q5, q6, q7, q8, q9, q10, q11⟩ := hHeldCx
            exact ⟨keep_cell hb q0, keep_cell hb q1, keep_cell hb q2, keep_cell hb q3, keep_cell hb q4, keep_cell hb q5, keep_cell hb q6, keep_cell hb q7, keep_cell hb q8, keep_cell hb q9, below_next q10 hb q11, le_next q11 hb⟩
          clear hK K hb hHeldCx
          (try simp only [Act.put, List.setIfInBounds_toArray, List.set_cons_zero, List.set_cons_succ])
          refine wpAnyH_take (i := 21) (oi := { dst := some 40, op := Op.unOp UnOp.not 4 (Operand.tmp 39), type := 4, pos := "pat.go:191", after := #[{ on := 20, ground := Ground.data }, { on := 10, ground := Ground.guard }], guard := some (10, true) }) (v := ?_) rfl (by kernel_rfl) (by kernel_rfl) (by kernel_rfl) (fun _ _ _ h => h) (Or.inl ⟨by rfl, ?hyC21⟩) (by assumption) ?_
          case hyC21 => (intro w hSw; (try dsimp only at hSw); go_simp; try with_reducible rfl)
          (try simp only [Act.put, List.setIfInBounds_toArray, List.set_cons_zero, List.set_cons_succ])
          refine wpAnyH_take (i := 22) (oi := { dst := some 41, op := Op.pick (Operand.tmp 29) (Operand.tmp 40) (Operand.const (Value.bool false)), type := 4, pos := "pat.go:191", after := #[{ on := 10, ground := Ground.data }, { on := 21, ground := Ground.data }, { on := 6, ground := Ground.guard }], guard := some (6, false) }) (v := ?_) rfl (by kernel_rfl) (by kernel_rfl) (by kernel_rfl) (fun _ _ _ h => h) (Or.inl ⟨by rfl, ?hyC22⟩) (by assumption) ?_
          case hyC22 => (intro w hSw; (try dsimp only at hSw); go_simp; try with_reducible rfl)
          (try simp only [Act.put, List.setIfInBounds_toArray, List.set_cons_zero, List.set_cons_succ])
          refine wpAnyH_take (i := 23) (oi := { dst := some 42, op := Op.pick (Operand.tmp 25) (Operand.const (Value.bool true)) (Operand.tmp 41), type := 4, pos := "pat.go:191", after := #[{ on := 6, ground := Ground.data }, { on := 22, ground := Ground.data }], guard := none }) (v := ?_) rfl (by kernel_rfl) (by kernel_rfl) (by kernel_rfl) (fun _ _ _ h => h) (Or.inl ⟨by rfl, ?hyC23⟩) (by assumption) ?_
          case hyC23 => (intro w hSw; (try dsimp only at hSw); go_simp; try with_reducible rfl)
          (try simp only [Act.put, List.setIfInBounds_toArray, List.set_cons_zero, List.set_cons_succ])
          refine wpAnyH_done (by kernel_rfl) ?_ _
          go_wp2
          go_ret
          exact ⟨rfl, hHeldCxx.2.2.2.2.2.2.2.2.2.2.1⟩
        | true =>
          have HA2 : Hid (∀ i t, i < k + 1 → pl[i]? = some t → aloneT fl t = true) := fun i t hi hit => by
            by_cases e : i = k
            · subst e; rw [HT.out] at hit; cases hit; exact HAt.out
            · exact HA.out i t (by omega) hit
          clear HA HT
          go_wp2
          rw [HW2.out, HBT.out]
          clear HW2 HBT
          refine wp_region_held_drew (S := (fun w' => w'.cell? ⟨w.heap.size + 1, 2, none⟩ = some (.slice (some ⟨vb, vo, none⟩) N fc) ∧ w'.cell? ⟨BT, 0, none⟩ = some (.int .i64 (tp : Int)) ∧ w'.cell? ⟨BT, 1, none⟩ = some (.bool tn) ∧ w'.cell? ⟨BT, 2, none⟩ = some (.string tv) ∧ w'.cell? ⟨BT, 3, none⟩ = some (.int .i64 tk) ∧ w'.cell? ⟨BT, 4, none⟩ = some (.int .i64 ti) ∧ w'.cell? ⟨BT, 5, none⟩ = some (.string ts) ∧ w'.cell? ⟨vb, vo + tp * 3, none⟩ = some (.int .i64 vk) ∧ w'.cell? ⟨vb, vo + tp * 3 + 1, none⟩ = some (.int .i64 vi) ∧ w'.cell? ⟨vb, vo + tp * 3 + 2, none⟩ = some (.string vs) ∧ Below w.heap.size w w' ∧ w.heap.size ≤ w'.heap.size)) (by kernel_rfl) ?_ (fun hHeldC => ?_)
          · exact ⟨y2, t0, t1, t2, t3, t4, t5, v0, v1, v2, HB2.out.drew, HB2.out.drew.size⟩
          refine wpAnyH_take (i := 0) (oi := { dst := some 19, op := Op.fieldAddr 66 (Operand.tmp 3) 2, type := 0, pos := "pat.go:191", after := #[], guard := none }) (v := ?_) rfl (by kernel_rfl) (by kernel_rfl) (by kernel_rfl) (fun _ _ _ h => h) (Or.inl ⟨by rfl, ?hyC0⟩) (by assumption) ?_
          case hyC0 => (intro w hSw; (try dsimp only at hSw); go_simp; try with_reducible rfl)
          (try simp only [Act.put, List.setIfInBounds_toArray, List.set_cons_zero, List.set_cons_succ])
          refine wpAnyH_take (i := 1) (oi := { dst := some 20, op := Op.load 64 (Operand.tmp 19), type := 64, pos := "pat.go:191", after := #[{ on := 0, ground := Ground.data }], guard := none }) (v := ?_) rfl (by kernel_rfl) (by kernel_rfl) (by kernel_rfl) (fun _ _ _ h => h) (Or.inl ⟨by rfl, ?hyC1⟩) (by assumption) ?_
          case hyC1 => (intro w hSw; (try dsimp only at hSw); go_simp; try with_reducible rfl)
          (try simp only [Act.put, List.setIfInBounds_toArray, List.set_cons_zero, List.set_cons_succ])
          refine wpAnyH_take (i := 2) (oi := { dst := some 21, op := Op.fieldAddr 88 (Operand.tmp 6) 0, type := 0, pos := "pat.go:191", after := #[], guard := none }) (v := ?_) rfl (by kernel_rfl) (by kernel_rfl) (by kernel_rfl) (fun _ _ _ h => h) (Or.inl ⟨by rfl, ?hyC2⟩) (by assumption) ?_
          case hyC2 => (intro w hSw; (try dsimp only at hSw); go_simp; try with_reducible rfl)
          (try simp only [Act.put, List.setIfInBounds_toArray, List.set_cons_zero, List.set_cons_succ])
          refine wpAnyH_take (i := 3) (oi := { dst := some 22, op := Op.load 3 (Operand.tmp 21), type := 3, pos := "pat.go:191", after := #[{ on := 2, ground := Ground.data }], guard := none }) (v := ?_) rfl (by kernel_rfl) (by kernel_rfl) (by kernel_rfl) (fun _ _ _ h => h) (Or.inl ⟨by rfl, ?hyC3⟩) (by assumption) ?_
          case hyC3 => (intro w hSw; (try dsimp only at hSw); go_simp; try with_reducible rfl)
          (try simp only [Act.put, List.setIfInBounds_toArray, List.set_cons_zero, List.set_cons_succ])
          refine wpAnyH_ready (rs := [4]) (by kernel_rfl) (by simp) ?_
          refine AllReadyH.cons (o := { dst := some 23, op := Op.call { callee := Callee.value (Operand.func 73), args := #[Operand.tmp 20, Operand.tmp 22], argTypes := #[64, 3] }, type := 4, pos := "pat.go:191", after := #[{ on := 1, ground := Ground.data }, { on := 3, ground := Ground.data }], guard := none }) rfl (fun K hK => ?_) AllReadyH.nil
          go_simp
          with_reducible refine (HHas.out _).mono ?_
          rintro e w' ⟨rfl, hb⟩
          refine hK.out _ _ ?_ (fun hHeldCx => ?_)
          · obtain ⟨q0, q1, q2, q3, q4, q5, q6, q7, q8, q9, q10, q11⟩ := hHeldC
            exact ⟨keep_cell hb q0, keep_cell hb q1, keep_cell hb q2, keep_cell hb q3, keep_cell hb q4, keep_cell hb q5, keep_cell hb q6, keep_cell hb q7, keep_cell hb q8, keep_cell hb q9, below_next q10 hb q11, le_next q11 hb⟩
          clear hK K hb hHeldC
          (try simp only [Act.put, List.setIfInBounds_toArray, List.set_cons_zero, List.set_cons_succ])
          refine wpAnyH_take (i := 5) (oi := { dst := some 24, op := Op.unOp UnOp.not 4 (Operand.tmp 23), type := 4, pos := "pat.go:191", after := #[{ on := 4, ground := Ground.data }], guard := none }) (v := ?_) rfl (by kernel_rfl) (by kernel_rfl) (by kernel_rfl) (fun _ _ _ h => h) (Or.inl ⟨by rfl, ?hyC5⟩) (by assumption) ?_
          case hyC5 => (intro w hSw; (try dsimp only at hSw); go_simp; try with_reducible rfl)
          (try simp only [Act.put, List.setIfInBounds_toArray, List.set_cons_zero, List.set_cons_succ])
          refine wpAnyH_take (i := 6) (oi := { dst := some 25, op := Op.move (Operand.tmp 24), type := 4, pos := "pat.go:191", after := #[{ on := 5, ground := Ground.data }, { on := 4, ground := Ground.chain }], guard := none }) (v := ?_) rfl (by kernel_rfl) (by kernel_rfl) (by kernel_rfl) (fun _ _ _ h => h) (Or.inl ⟨by rfl, ?hyC6⟩) (by assumption) ?_
          case hyC6 => (intro w hSw; (try dsimp only at hSw); go_simp; try with_reducible rfl)
          (try simp only [Act.put, List.setIfInBounds_toArray, List.set_cons_zero, List.set_cons_succ])
          refine wpAnyH_take (i := 7) (oi := { dst := some 26, op := Op.fieldAddr 88 (Operand.tmp 6) 2, type := 0, pos := "pat.go:191", after := #[{ on := 6, ground := Ground.guard }], guard := some (6, false) }) (v := ?_) rfl (by kernel_rfl) (by kernel_rfl) (by kernel_rfl) (fun _ _ _ h => h) (Or.inl ⟨by rfl, ?hyC7⟩) (by assumption) ?_
          case hyC7 => (intro w hSw; (try dsimp only at hSw); go_simp; try with_reducible rfl)
          (try simp only [Act.put, List.setIfInBounds_toArray, List.set_cons_zero, List.set_cons_succ])
          refine wpAnyH_take (i := 8) (oi := { dst := some 27, op := Op.load 9 (Operand.tmp 26), type := 9, pos := "pat.go:191", after := #[{ on := 7, ground := Ground.data }, { on := 6, ground := Ground.guard }], guard := some (6, false) }) (v := ?_) rfl (by kernel_rfl) (by kernel_rfl) (by kernel_rfl) (fun _ _ _ h => h) (Or.inl ⟨by rfl, ?hyC8⟩) (by assumption) ?_
          case hyC8 => (intro w hSw; (try dsimp only at hSw); go_simp; try with_reducible rfl)
          (try simp only [Act.put, List.setIfInBounds_toArray, List.set_cons_zero, List.set_cons_succ])
          refine wpAnyH_take (i := 9) (oi := { dst := some 28, op := Op.binOp BinOp.eql 9 (Operand.tmp 27) (Operand.const (Value.string { data := #[] })) 9, type := 4, pos := "pat.go:191", after := #[{ on := 8, ground := Ground.data }, { on := 6, ground := Ground.guard }], guard := some (6, false) }) (v := ?_) rfl (by kernel_rfl) (by kernel_rfl) (by kernel_rfl) (fun _ _ _ h => h) (Or.inl ⟨by rfl, ?hyC9⟩) (by assumption) ?_
          case hyC9 => (intro w hSw; (try dsimp only at hSw); go_simp; try with_reducible rfl)
          (try simp only [Act.put, List.setIfInBounds_toArray, List.set_cons_zero, List.set_cons_succ])
          refine wpAnyH_take (i := 10) (oi := { dst := some 29, op := Op.move (Operand.tmp 28), type := 4, pos := "pat.go:191", after := #[{ on := 9, ground := Ground.data }, { on := 6, ground := Ground.chain }, { on := 6, ground := Ground.guard }], guard := some (6, false) }) (v := ?_) rfl (by kernel_rfl) (by kernel_rfl) (by kernel_rfl) (fun _ _ _ h => h) (Or.inl ⟨by rfl, ?hyC10⟩) (by assumption) ?_
          case hyC10 => (intro w hSw; (try dsimp only at hSw); go_simp; try with_reducible rfl)
          (try simp only [Act.put, List.setIfInBounds_toArray, List.set_cons_zero, List.set_cons_succ])
          refine wpAnyH_take (i := 11) (oi := { dst := some 30, op := Op.load 88 (Operand.tmp 6), type := 88, pos := "pat.go:191", after := #[{ on := 10, ground := Ground.guard }], guard := some (10, true) }) (v := ?_) rfl (by kernel_rfl) (by kernel_rfl) (by kernel_rfl) (fun _ _ _ h => h) (Or.inl ⟨by rfl, ?hyC11⟩) (by assumption) ?_
          case hyC11 => (intro w hSw; (try dsimp only at hSw); go_simp; try with_reducible rfl)
          (try simp only [Act.put, List.setIfInBounds_toArray, List.set_cons_zero, List.set_cons_succ])
          refine wpAnyH_take (i := 12) (oi := { dst := some 31, op := Op.fieldAddr 66 (Operand.tmp 3) 2, type := 0, pos := "pat.go:191", after := #[{ on := 10, ground := Ground.guard }], guard := some (10, true) }) (v := ?_) rfl (by kernel_rfl) (by kernel_rfl) (by kernel_rfl) (fun _ _ _ h => h) (Or.inl ⟨by rfl, ?hyC12⟩) (by assumption) ?_
          case hyC12 => (intro w hSw; (try dsimp only at hSw); go_simp; try with_reducible rfl)
          (try simp only [Act.put, List.setIfInBounds_toArray, List.set_cons_zero, List.set_cons_succ])
          refine wpAnyH_take (i := 13) (oi := { dst := some 32, op := Op.load 64 (Operand.tmp 31), type := 64, pos := "pat.go:191", after := #[{ on := 12, ground := Ground.data }, { on := 10, ground := Ground.guard }], guard := some (10, true) }) (v := ?_) rfl (by kernel_rfl) (by kernel_rfl) (by kernel_rfl) (fun _ _ _ h => h) (Or.inl ⟨by rfl, ?hyC13⟩) (by assumption) ?_
          case hyC13 => (intro w hSw; (try dsimp only at hSw); go_simp; try with_reducible rfl)
          (try simp only [Act.put, List.setIfInBounds_toArray, List.set_cons_zero, List.set_cons_succ])
          refine wpAnyH_take (i := 14) (oi := { dst := some 33, op := Op.fieldAddr 88 (Operand.tmp 6) 0, type := 0, pos := "pat.go:191", after := #[{ on := 10, ground := Ground.guard }], guard := some (10, true) }) (v := ?_) rfl (by kernel_rfl) (by kernel_rfl) (by kernel_rfl) (fun _ _ _ h => h) (Or.inl ⟨by rfl, ?hyC14⟩) (by assumption) ?_
          case hyC14 => (intro w hSw; (try dsimp only at hSw); go_simp; try with_reducible rfl)
          (try simp only [Act.put, List.setIfInBounds_toArray, List.set_cons_zero, List.set_cons_succ])
          refine wpAnyH_take (i := 15) (oi := { dst := some 34, op := Op.load 3 (Operand.tmp 33), type := 3, pos := "pat.go:191", after := #[{ on := 14, ground := Ground.data }, { on := 10, ground := Ground.guard }], guard := some (10, true) }) (v := ?_) rfl (by kernel_rfl) (by kernel_rfl) (by kernel_rfl) (fun _ _ _ h => h) (Or.inl ⟨by rfl, ?hyC15⟩) (by assumption) ?_
          case hyC15 => (intro w hSw; (try dsimp only at hSw); go_simp; try with_reducible rfl)
          (try simp only [Act.put, List.setIfInBounds_toArray, List.set_cons_zero, List.set_cons_succ])
          refine wpAnyH_take (i := 16) (oi := { dst := some 35, op := Op.indexAddr 64 (Operand.tmp 32) (Operand.tmp 34), type := 0, pos := "pat.go:191", after := #[{ on := 13, ground := Ground.data }, { on := 15, ground := Ground.data }, { on := 10, ground := Ground.guard }], guard := some (10, true) }) (v := ?_) rfl (by kernel_rfl) (by kernel_rfl) (by kernel_rfl) (fun _ _ _ h => h) (Or.inl ⟨by rfl, ?hyC16⟩) (by assumption) ?_
          case hyC16 => (intro w hSw; (try dsimp only at hSw); go_simp; try with_reducible rfl)
          (try simp only [Act.put, List.setIfInBounds_toArray, List.set_cons_zero, List.set_cons_succ])
          refine wpAnyH_take (i := 17) (oi := { dst := some 36, op := Op.load 71 (Operand.tmp 35), type := 71, pos := "pat.go:191", after := #[{ on := 16, ground := Ground.data }, { on := 10, ground := Ground.guard }], guard := some (10, true) }) (v := ?_) rfl (by kernel_rfl) (by kernel_rfl) (by kernel_rfl) (fun _ _ _ h => h) (Or.inl ⟨by rfl, ?hyC17⟩) (by assumption) ?_
          case hyC17 => (intro w hSw; (try dsimp only at hSw); go_simp; try with_reducible rfl)
          (try simp only [Act.put, List.setIfInBounds_toArray, List.set_cons_zero, List.set_cons_succ])
          refine wpAnyH_take (i := 18) (oi := { dst := some 37, op := Op.fieldAddr 88 (Operand.tmp 6) 3, type := 0, pos := "pat.go:191", after := #[{ on := 10, ground := Ground.guard }], guard := some (10, true) }) (v := ?_) rfl (by kernel_rfl) (by kernel_rfl) (by kernel_rfl) (fun _ _ _ h => h) (Or.inl ⟨by rfl, ?hyC18⟩) (by assumption) ?_
          case hyC18 => (intro w hSw; (try dsimp only at hSw); go_simp; try with_reducible rfl)
          (try simp only [Act.put, List.setIfInBounds_toArray, List.set_cons_zero, List.set_cons_succ])
          refine wpAnyH_take (i := 19) (oi := { dst := some 38, op := Op.load 71 (Operand.tmp 37), type := 71, pos := "pat.go:191", after := #[{ on := 18, ground := Ground.data }, { on := 10, ground := Ground.guard }], guard := some (10, true) }) (v := ?_) rfl (by kernel_rfl) (by kernel_rfl) (by kernel_rfl) (fun _ _ _ h => h) (Or.inl ⟨by rfl, ?hyC19⟩) (by assumption) ?_
          case hyC19 => (intro w hSw; (try dsimp only at hSw); go_simp; try with_reducible rfl)
          (try simp only [Act.put, List.setIfInBounds_toArray, List.set_cons_zero, List.set_cons_succ])
          refine wpAnyH_ready (rs := [20]) (by kernel_rfl) (by simp) ?_
          refine AllReadyH.cons (o := { dst := some 39, op := Op.call { callee := Callee.value (Operand.func 71), args := #[Operand.tmp 30, Operand.tmp 36, Operand.tmp 38], argTypes := #[88, 71, 71] }, type := 4, pos := "pat.go:191", after := #[{ on := 11, ground := Ground.data }, { on := 17, ground := Ground.data }, { on := 19, ground := Ground.data }, { on := 10, ground := Ground.chain }, { on := 10, ground := Ground.guard }], guard := some (10, true) }) rfl (fun K hK => ?_) AllReadyH.nil
          go_simp
          with_reducible refine (HHo.out _).mono ?_
          rintro e w' ⟨rfl, hb⟩
          refine hK.out _ _ ?_ (fun hHeldCxx => ?_)
          · obtain ⟨q0, q1, q2, q3, q4, q5, q6, q7, q8, q9, q10, q11⟩ := hHeldCx
            exact ⟨keep_cell hb q0, keep_cell hb q1, keep_cell hb q2, keep_cell hb q3, keep_cell hb q4, keep_cell hb q5, keep_cell hb q6, keep_cell hb q7, keep_cell hb q8, keep_cell hb q9, below_next q10 hb q11, le_next q11 hb⟩
          clear hK K hb hHeldCx
          (try simp only [Act.put, List.setIfInBounds_toArray, List.set_cons_zero, List.set_cons_succ])
          refine wpAnyH_take (i := 21) (oi := { dst := some 40, op := Op.unOp UnOp.not 4 (Operand.tmp 39), type := 4, pos := "pat.go:191", after := #[{ on := 20, ground := Ground.data }, { on := 10, ground := Ground.guard }], guard := some (10, true) }) (v := ?_) rfl (by kernel_rfl) (by kernel_rfl) (by kernel_rfl) (fun _ _ _ h => h) (Or.inl ⟨by rfl, ?hyC21⟩) (by assumption) ?_
          case hyC21 => (intro w hSw; (try dsimp only at hSw); go_simp; try with_reducible rfl)
          (try simp only [Act.put, List.setIfInBounds_toArray, List.set_cons_zero, List.set_cons_succ])
          refine wpAnyH_take (i := 22) (oi := { dst := some 41, op := Op.pick (Operand.tmp 29) (Operand.tmp 40) (Operand.const (Value.bool false)), type := 4, pos := "pat.go:191", after := #[{ on := 10, ground := Ground.data }, { on := 21, ground := Ground.data }, { on := 6, ground := Ground.guard }], guard := some (6, false) }) (v := ?_) rfl (by kernel_rfl) (by kernel_rfl) (by kernel_rfl) (fun _ _ _ h => h) (Or.inl ⟨by rfl, ?hyC22⟩) (by assumption) ?_
          case hyC22 => (intro w hSw; (try dsimp only at hSw); go_simp; try with_reducible rfl)
          (try simp only [Act.put, List.setIfInBounds_toArray, List.set_cons_zero, List.set_cons_succ])
          refine wpAnyH_take (i := 23) (oi := { dst := some 42, op := Op.pick (Operand.tmp 25) (Operand.const (Value.bool true)) (Operand.tmp 41), type := 4, pos := "pat.go:191", after := #[{ on := 6, ground := Ground.data }, { on := 22, ground := Ground.data }], guard := none }) (v := ?_) rfl (by kernel_rfl) (by kernel_rfl) (by kernel_rfl) (fun _ _ _ h => h) (Or.inl ⟨by rfl, ?hyC23⟩) (by assumption) ?_
          case hyC23 => (intro w hSw; (try dsimp only at hSw); go_simp; try with_reducible rfl)
          (try simp only [Act.put, List.setIfInBounds_toArray, List.set_cons_zero, List.set_cons_succ])
          refine wpAnyH_done (by kernel_rfl) ?_ _
          obtain ⟨hy5, _, _, _, _, _, _, _, _, _, hb5, _⟩ := hHeldCxx
          have HB5 : Hid (Below w.heap.size w w') := hb5
          have HY5 : Hid (w'.cell? ⟨w.heap.size + 1, 2, none⟩ = some (.slice (some ⟨vb, vo, none⟩) N fc)) := hy5
          clear hb5 hy5
          go_wp2
          go_roundw
          case rel => exact ⟨k + 1, by omega, by go_num, HB5, HY5, HA2⟩
          case measure => simp [intOf]; omega
    · have hki : ¬ (k : Int) < (C : Int) := by omega
      obtain rfl : R = true := by
        rw [← HRl.out]
        exact aloneL_yes fun i t hi => HA.out i t (by have := (List.getElem?_eq_some_iff.1 hi).1; rw [HC.out] at this; omega) hi
      clear HA HRl
      go_wp2
      go_ret
      exact ⟨rfl, HB.out⟩
end Go.Proofs.YtnhbjhdkpbhioaaGreatDoor
/- Rows of binds, of names: copied, one more behind them. -/
namespace Go.Proofs.YtnhbjhdkpbhioaaGreatDoor
open Go.RowKit

theorem slsC_one : ∀ (L : List Sl), ∀ u ∈ slsC L, u.oneCell' = true
  | [], u, h => by simp [slsC] at h
  | v :: L, u, h => by
    rw [slsC_cons, List.mem_append] at h
    rcases h with h | h
    · simp [sC] at h
      rcases h with rfl | rfl | rfl | rfl <;> rfl
    · exact slsC_one L u h
theorem cells_sls {w : World} {b o : Nat} {L : List Sl} (h : IsSls w (some ⟨b, o, none⟩) L) : ∀ j u, (slsC L)[j]? = some u → w.cell? ((⟨b, o, none⟩ : Addr).add j) = some u := by
  intro j u hj
  have hl := (List.getElem?_eq_some_iff.1 hj).1
  rw [slsC_len] at hl
  obtain ⟨q, r, hr, rfl⟩ : ∃ q r, r < 4 ∧ j = q * 4 + r := ⟨j / 4, j % 4, by omega, by omega⟩
  have hq : q < L.length := by omega
  have hv : L[q]? = some L[q] := List.getElem?_eq_getElem hq
  obtain ⟨b', o', e, c0, c1, c2, c3⟩ := h q _ hv
  obtain ⟨rfl, rfl⟩ : b' = b ∧ o' = o := by injection e with h; injection h with h1 h2; exact ⟨h1.symm, h2.symm⟩
  rw [sls_at L q r _ hv hr] at hj
  have hadd : (⟨b', o', none⟩ : Addr).add (q * 4 + r) = ⟨b', o' + q * 4 + r, none⟩ := by unfold Addr.add; split <;> simp_all <;> omega
  rw [hadd]
  match r, hr, hj with
  | 0, _, hj => simp [sC] at hj; rw [← hj]; exact c0
  | 1, _, hj => simp [sC] at hj; rw [← hj]; exact c1
  | 2, _, hj => simp [sC] at hj; rw [← hj]; exact c2
  | 3, _, hj => simp [sC] at hj; rw [← hj]; exact c3
theorem strsC_one : ∀ (L : List ByteArray), ∀ u ∈ strsC L, u.oneCell' = true := fun L u h => by
  unfold strsC at h
  rw [List.mem_map] at h
  obtain ⟨a, _, rfl⟩ := h
  rfl
theorem cells_strs {w : World} {b o : Nat} {L : List ByteArray} (h : StrsA w (some ⟨b, o, none⟩) L) : ∀ j u, (strsC L)[j]? = some u → w.cell? ((⟨b, o, none⟩ : Addr).add j) = some u := by
  intro j u hj
  unfold strsC at hj
  rw [List.getElem?_map, Option.map_eq_some_iff] at hj
  obtain ⟨s, hs, rfl⟩ := hj
  obtain ⟨b', o', e, c0⟩ := h j s hs
  obtain ⟨rfl, rfl⟩ : b' = b ∧ o' = o := by injection e with h; injection h with h1 h2; exact ⟨h1.symm, h2.symm⟩
  have hadd : (⟨b', o', none⟩ : Addr).add j = ⟨b', o' + j, none⟩ := by unfold Addr.add; split <;> simp_all
  rw [hadd]; exact c0
theorem own_base {w : World} {B B' e size n : Nat} {v : Value} {xs : List Value} (h : w.ownsRow B e size v n xs) (hB : B' ≤ B) : w.ownsRow B' e size v n xs := by
  refine ⟨h.1, ?_⟩
  rcases h.2 with h | ⟨g, cap, cur, h1, h2, h3⟩
  · exact .inl h
  · exact .inr ⟨g, cap, cur, h1, Nat.le_trans hB h2, h3⟩
/-- An append whose run is known. -/
theorem wpList_append_runB (w : World) {ops : Array Oper} {rest : List Oper} {o : Oper} {a : Act} {Q : Exit → Act → World → Prop} (hgd : o.guard = none) (s x : Operand) (t : TypeId)
    (ho : o.op = .call { callee := .builtin .append, args := #[s, x], argTypes := #[t, t] }) (v xv v' : Value) (w' : World) (hs : a.eval s = v) (hx : a.eval x = xv)
    (hr : (Builtin.append_ #[t, t] o.type #[v, xv]).run Tryz.prog w = .ok v' w') (h : wpList Tryz.prog ops Q rest (a.put o.dst v') w') : wpList Tryz.prog ops Q (o :: rest) a w :=
  wpList_plain hgd fun _ hK => by
    unfold Oper.wp execOp
    simp only [ho, resolve, invoke, builtin, Sem.run_bind, Sem.run_pure, Result.andThen_ok, List.map_toArray, List.map_cons, List.map_nil, hs, hx, hr]
    exact hK _ _ h
theorem append_bd {w : World} {base n : Nat} {v : Value} {xs : List Value} {ao : Option Addr} {N cap : Nat} {L : List Sl} (hown : w.ownsRow base 91 4 v n xs) (hN : L.length = N) (hv : IsSls w ao L) (hc : ao = none → N = 0 ∧ cap = 0) (hn : n ≤ 1000) (hN2 : N ≤ 1000) (hb : base ≤ w.heap.size) :
    ∃ v' w', (Builtin.append_ #[67, 67] 67 #[v, .slice ao N cap]).run Tryz.prog w = .ok v' w' ∧ w'.ownsRow base 91 4 v' (n + N) (xs ++ slsC L) ∧ w.grownBy w' v.ownBlock := by
  obtain ⟨i0, hi, hz0, hz1, hz2⟩ := infoBd'
  cases ao with
  | none =>
    obtain ⟨rfl, rfl⟩ := hc rfl
    have e : L = [] := List.eq_nil_of_length_eq_zero hN
    subst e
    refine ⟨v, w, run_append_owned_none w base 67 67 91 i0 4 Tryz.underlying67 hi v n xs hown, ?_, World.grownBy.refl _ _⟩
    show w.ownsRow base 91 4 v n (xs ++ [])
    rw [List.append_nil]
    exact hown
  | some a =>
    have hcell : ∀ j u, (slsC L)[j]? = some u → w.cell? (a.add j) = some u := by
      cases L with
      | nil => intro j u hj; simp [slsC] at hj
      | cons v0 L0 =>
        obtain ⟨b, o, e, _⟩ := hv 0 v0 rfl
        obtain rfl : a = ⟨b, o, none⟩ := Option.some.inj e
        exact cells_sls hv
    obtain ⟨v', w', h1, h2, h3, _⟩ := run_append_own (P := Tryz.prog) w base 67 67 91 i0 zeroSl 4 48 Tryz.underlying67 hi hz0 hz1 hz2 rfl (by decide) v n xs hown a N cap (slsC L) (by rw [slsC_len, hN]) hcell (slsC_one L) (by unfold maxLen; omega) (by omega) hb
    exact ⟨v', w', h1, h2, h3⟩
theorem append_rbd {w : World} {base n : Nat} {v : Value} {xs : List Value} {ao : Option Addr} {N cap : Nat} {L : List Sl} (hown : w.ownsRow base 158 4 v n xs) (hN : L.length = N) (hv : IsSls w ao L) (hc : ao = none → N = 0 ∧ cap = 0) (hn : n ≤ 1000) (hN2 : N ≤ 1000) (hb : base ≤ w.heap.size) :
    ∃ v' w', (Builtin.append_ #[78, 78] 78 #[v, .slice ao N cap]).run Tryz.prog w = .ok v' w' ∧ w'.ownsRow base 158 4 v' (n + N) (xs ++ slsC L) ∧ w.grownBy w' v.ownBlock := by
  obtain ⟨i0, hi, hz0, hz1, hz2⟩ := infoRBd'
  cases ao with
  | none =>
    obtain ⟨rfl, rfl⟩ := hc rfl
    have e : L = [] := List.eq_nil_of_length_eq_zero hN
    subst e
    refine ⟨v, w, run_append_owned_none w base 78 78 158 i0 4 Tryz.underlying78 hi v n xs hown, ?_, World.grownBy.refl _ _⟩
    show w.ownsRow base 158 4 v n (xs ++ [])
    rw [List.append_nil]
    exact hown
  | some a =>
    have hcell : ∀ j u, (slsC L)[j]? = some u → w.cell? (a.add j) = some u := by
      cases L with
      | nil => intro j u hj; simp [slsC] at hj
      | cons v0 L0 =>
        obtain ⟨b, o, e, _⟩ := hv 0 v0 rfl
        obtain rfl : a = ⟨b, o, none⟩ := Option.some.inj e
        exact cells_sls hv
    obtain ⟨v', w', h1, h2, h3, _⟩ := run_append_own (P := Tryz.prog) w base 78 78 158 i0 zeroSl 4 48 Tryz.underlying78 hi hz0 hz1 hz2 rfl (by decide) v n xs hown a N cap (slsC L) (by rw [slsC_len, hN]) hcell (slsC_one L) (by unfold maxLen; omega) (by omega) hb
    exact ⟨v', w', h1, h2, h3⟩
theorem append_strs {w : World} {base n : Nat} {v : Value} {xs : List Value} {ao : Option Addr} {N cap : Nat} {L : List ByteArray} (hown : w.ownsRow base 9 1 v n xs) (hN : L.length = N) (hv : StrsA w ao L) (hc : ao = none → N = 0 ∧ cap = 0) (hn : n ≤ 1000) (hN2 : N ≤ 1000) (hb : base ≤ w.heap.size) :
    ∃ v' w', (Builtin.append_ #[61, 61] 61 #[v, .slice ao N cap]).run Tryz.prog w = .ok v' w' ∧ w'.ownsRow base 9 1 v' (n + N) (xs ++ strsC L) ∧ w.grownBy w' v.ownBlock := by
  obtain ⟨i0, hi, hz0, hz1, hz2⟩ := infoStr'
  cases ao with
  | none =>
    obtain ⟨rfl, rfl⟩ := hc rfl
    have e : L = [] := List.eq_nil_of_length_eq_zero hN
    subst e
    refine ⟨v, w, run_append_owned_none w base 61 61 9 i0 1 Tryz.underlying61 hi v n xs hown, ?_, World.grownBy.refl _ _⟩
    show w.ownsRow base 9 1 v n (xs ++ [])
    rw [List.append_nil]
    exact hown
  | some a =>
    have hcell : ∀ j u, (strsC L)[j]? = some u → w.cell? (a.add j) = some u := by
      cases L with
      | nil => intro j u hj; simp [strsC] at hj
      | cons v0 L0 =>
        obtain ⟨b, o, e, _⟩ := hv 0 v0 rfl
        obtain rfl : a = ⟨b, o, none⟩ := Option.some.inj e
        exact cells_strs hv
    obtain ⟨v', w', h1, h2, h3, _⟩ := run_append_own (P := Tryz.prog) w base 61 61 9 i0 (.string ⟨#[]⟩) 1 16 Tryz.underlying61 hi hz0 hz1 hz2 rfl (by decide) v n xs hown a N cap (strsC L) (by rw [strsC, List.length_map, hN, Nat.mul_one]) hcell (strsC_one L) (by unfold maxLen; omega) (by omega) hb
    exact ⟨v', w', h1, h2, h3⟩

set_option maxHeartbeats 1000000 in
theorem cloneb_any (ao : Option Addr) (cap N : Nat) (L : List Sl) (w : World) (hN : L.length = N) (hv : IsSls w ao L) (hc : ao = none → N = 0 ∧ cap = 0) (hm : N ≤ 1000) :
    Calls Tryz.prog 69 #[.slice ao N cap] w fun e w' => ∃ a' c', e = .returned (.slice a' N c') ∧ w'.ownsRow w.heap.size 91 4 (.slice a' N c') N (slsC L) ∧ Below w.heap.size w w' := by
  have q := fun (w : World) (a : Option Addr) (n c n' c' : Nat) => Lib.run_eql_slice_nil (P := Tryz.prog) w 67 91 a n c n' c' Tryz.underlying67
  cases ao with
  | none =>
    obtain ⟨rfl, rfl⟩ := hc rfl
    have e : L = [] := List.eq_nil_of_length_eq_zero hN
    subst e
    clear hv hc hN
    go_enter Tryz.func69, Tryz.ntmps69
    go_wp2
    go_ret
    exact ⟨none, 0, rfl, World.ownsRow_nil _ _ _ _, Below.refl _ _⟩
  | some a =>
    have hv1 : IsSls (w.alloc (.cells #[] 91)) (some a) L := hv.next (alloc_below _ _)
    obtain ⟨v', w', hr, hown, hg⟩ := append_bd (cap := cap) (World.ownsRow_made w #[] 0 (Nat.le_refl _) (Nat.zero_le _) (by simp)) hN hv1 (fun h => by cases h) (by omega) hm (by simp)
    rw [Nat.zero_add, List.nil_append] at hown
    obtain ⟨a', c', rfl, _, _⟩ := own_sls hN hown
    have HB : Hid (Below w.heap.size w w') := ((Below.refl _ w).alloc (Nat.le_refl _) _).grown hg (by simp) (by intro k hk; simp [Value.ownBlock] at hk; omega)
    have HV : Hid (w'.ownsRow w.heap.size 91 4 (.slice a' N c') N (slsC L)) := hown
    clear hv hv1 hown hg
    go_enter Tryz.func69, Tryz.ntmps69
    go_wp2_with (at_builtin; refine wpList_append_runB _ rfl _ _ 67 rfl _ _ _ _ rfl rfl hr ?_)
    go_ret
    exact ⟨a', c', rfl, HV.out, HB.out⟩
end Go.Proofs.YtnhbjhdkpbhioaaGreatDoor
