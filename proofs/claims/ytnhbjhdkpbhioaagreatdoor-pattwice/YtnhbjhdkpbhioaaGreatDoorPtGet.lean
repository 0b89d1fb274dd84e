/- Get of binds: eval's, the reference's. -/
import Derived.Test.YtnhbjhdkpbhioaaGreatDoorPtBack
namespace Go.Proofs.YtnhbjhdkpbhioaaGreatDoor
open Go.RowKit

def gtV (E : List Sl) (m : ByteArray) : Sl × Bool := match gtB E m with
  | some s => (s, true)
  | none => (zSl, false)
theorem gtV_yes {E : List Sl} {m : ByteArray} {s : Sl} (h : gtB E m = some s) : gtV E m = (s, true) := by unfold gtV; rw [h]
theorem gtV_no {E : List Sl} {m : ByteArray} (h : gtB E m = none) : gtV E m = (zSl, false) := by unfold gtV; rw [h]
theorem ret_gv {R : Sl × Bool} {n : ByteArray} {k i : Int} {s : ByteArray} {b : Bool} (h : R = (⟨n, k, i, s⟩, b)) : Ending.returned (.tuple #[.agg #[.int .i64 (k), .int .i64 (i), .string (s)], .bool b]) = .returned (.tuple #[.agg #[.int .i64 (R.1.k), .int .i64 (R.1.i), .string (R.1.s)], .bool R.2]) := by rw [h]
theorem bel3 {w W : World} {B b : Nat} (h : Below B w W) (hb : B ≤ b) (v0 v1 v2 : Value) : Below B w (((W.setCell ⟨b, 0, none⟩ v0).setCell ⟨b, 1, none⟩ v1).setCell ⟨b, 2, none⟩ v2) := set_bel (set_bel (set_bel h hb) hb) hb

set_option maxHeartbeats 4000000 in
set_option maxRecDepth 8000 in
theorem get_any (ao : Option Addr) (N cap : Nat) (E : List Sl) (m : ByteArray) (w : World) (hN : E.length = N) (hNb : N ≤ 100000) (hI : IsSls w ao E) :
    Calls Tryz.prog 70 #[.slice ao N cap, .string m] w fun e w' => e = .returned (.tuple #[.agg #[.int .i64 ((gtV E m).1.k), .int .i64 ((gtV E m).1.i), .string ((gtV E m).1.s)], .bool (gtV E m).2]) ∧ Below w.heap.size w w' := by
  obtain ⟨R, HR⟩ : ∃ R, Hid (gtV E m = R) := ⟨_, rfl⟩
  rw [HR.out]
  obtain ⟨W, HWe⟩ : ∃ W, Hid (w.alloc (.cells #[.int .i64 0, .int .i64 0, .string ⟨#[]⟩] 71) = W) := ⟨_, rfl⟩
  have HB : Hid (Below w.heap.size w W) := by rw [← HWe.out]; exact alloc_below _ _
  have HX : Hid (Bx W w.heap.size #[.int .i64 0, .int .i64 0, .string ⟨#[]⟩]) := Bx.made' HWe.out rfl
  have HL : Hid (Calls Tryz.prog 101 #[.slice ao N cap, .string m] W fun e W' => ((e = .returned (.int .i64 (-1)) ∧ gtB E m = none) ∨ ∃ (j : Nat) (s : Sl), e = .returned (.int .i64 (j : Int)) ∧ E[j]? = some s ∧ gtB E m = some s) ∧ Below W.heap.size W W') :=
    lastof_any ao N cap m E W hN hNb (hI.next HB.out)
  have HI : Hid (∀ w', Below w.heap.size w w' → IsSls w' ao E) := fun w' h => hI.next h
  have HN : Hid (E.length = N) := hN
  clear hI hN
  go_enter Tryz.func70, Tryz.ntmps70
  go_wp2_with fail
  rw [HWe.out]
  clear HWe
  refine HL.out.mono ?_
  rintro e w1 ⟨hr, hb1⟩
  have HB1 : Hid (Below w.heap.size w w1) := next_trans HB.out hb1
  have HX1 : Hid (Bx w1 w.heap.size #[.int .i64 0, .int .i64 0, .string ⟨#[]⟩]) := HX.out.next hb1
  have r0 : w1.cell? ⟨w.heap.size, 0, none⟩ = some (.int .i64 0) := HX1.out.cell 0
  have r1 : w1.cell? ⟨w.heap.size, 1, none⟩ = some (.int .i64 0) := HX1.out.cell 1
  have r2 : w1.cell? ⟨w.heap.size, 2, none⟩ = some (.string ⟨#[]⟩) := HX1.out.cell 2
  have rf := HX1.out.froz
  have HD := bel3 (b := w.heap.size) HB1.out (Nat.le_refl _)
  rcases hr with ⟨rfl, hg⟩ | ⟨j, s, rfl, hs, hg⟩
  · have HF : Hid (R = (zSl, false)) := by rw [Hid, ← HR.out]; exact gtV_no hg
    clear hg hb1 HL HX HB HX1 HR HI
    go_wp2
    exact bodyPost_ret (v := .tuple #[.agg #[.int .i64 (0), .int .i64 (0), .string (⟨#[]⟩)], .bool false]) (by simp [results, Tryz.results70, go_sem, r0, r1, r2]) rfl ⟨ret_gv (n := noS) HF.out, HD _ _ _⟩
  · have HF : Hid (R = (s, true)) := by rw [Hid, ← HR.out]; exact gtV_yes hg
    have hj : j < N := by have := (List.getElem?_eq_some_iff.1 hs).1; rw [HN.out] at this; exact this
    have hji : (j : Int) < (N : Int) := by omega
    have hj0 : (0 : Int) ≤ (j : Int) := by omega
    have hjn : ¬ (j : Int) < 0 := by omega
    obtain ⟨b, o, rfl, c0, c1, c2, c3⟩ := HI.out w1 HB1.out j s hs
    obtain ⟨sn, sk, si, ss⟩ := s
    simp only at c0 c1 c2 c3
    clear hg hb1 HL HX HB HX1 HR HI hs hj
    go_wp2
    exact bodyPost_ret (v := .tuple #[.agg #[.int .i64 (sk), .int .i64 (si), .string (ss)], .bool true]) (by simp [results, Tryz.results70, go_sem, r0, r1, r2]) rfl ⟨ret_gv HF.out, HD _ _ _⟩

set_option maxHeartbeats 4000000 in
set_option maxRecDepth 8000 in
theorem rgt_any (ao : Option Addr) (N cap : Nat) (E : List Sl) (m : ByteArray) (w : World) (hN : E.length = N) (hNb : N ≤ 100000) (hI : IsSls w ao E) :
    Calls Tryz.prog 72 #[.slice ao N cap, .string m] w fun e w' => e = .returned (.tuple #[.agg #[.int .i64 ((gtV E m).1.k), .int .i64 ((gtV E m).1.i), .string ((gtV E m).1.s)], .bool (gtV E m).2]) ∧ Below w.heap.size w w' := by
  obtain ⟨R, HR⟩ : ∃ R, Hid (gtV E m = R) := ⟨_, rfl⟩
  have HEn : Hid (IsSls w ao E) := hI
  have HN : Hid (E.length = N) := hN
  rw [HR.out]
  clear hI hN
  have hm1 : IntKind.i64.wrap ((N : Int) - 1) = (N : Int) - 1 := by rw [IntKind.wrap_i64] <;> omega
  go_enter Tryz.func72, Tryz.ntmps72
  go_wp2
  obtain ⟨W, hW⟩ : ∃ W, w.alloc (.cells #[.int .i64 0, .int .i64 0, .string ⟨#[]⟩] 71) = W := ⟨_, rfl⟩
  have HB : Hid (Below w.heap.size w W) := by rw [← hW]; exact alloc_below _ _
  have HX : Bx W w.heap.size #[.int .i64 0, .int .i64 0, .string ⟨#[]⟩] := Bx.made' hW rfl
  have z0 : W.cell? ⟨w.heap.size, 0, none⟩ = some (.int .i64 0) := HX.cell 0
  have z1 : W.cell? ⟨w.heap.size, 1, none⟩ = some (.int .i64 0) := HX.cell 1
  have z2 : W.cell? ⟨w.heap.size, 2, none⟩ = some (.string ⟨#[]⟩) := HX.cell 2
  have zf := HX.froz
  have HD := bel3 (b := w.heap.size) HB.out (Nat.le_refl _)
  rw [hW]
  clear hW HX
  go_loop [6] (fun q => ∃ k : Nat, k ≤ N ∧ q = .int .i64 ((k : Int) - 1) ∧ Hid (∀ (j : Nat) (p : Sl), k ≤ j → E[j]? = some p → p.n ≠ m)) (fun q => (intOf q + 1).toNat)
  case atStart => exact ⟨N, Nat.le_refl _, by go_num, fun j p hm hp => absurd (List.getElem?_eq_some_iff.1 hp).1 (by rw [HN.out]; omega)⟩
  case round =>
    obtain ⟨k, hk, hq, HA⟩ := hrel
    cases k with
    | zero =>
      have hq' : u6 = .int .i64 (-1) := hq
      subst hq'
      have HF : Hid (R = (zSl, false)) := by rw [Hid, ← HR.out]; exact gtV_no (gtB_miss E m fun j p hp => HA.out j p (Nat.zero_le _) hp)
      clear hq
      go_wp2
      exact bodyPost_ret (v := .tuple #[.agg #[.int .i64 (0), .int .i64 (0), .string (⟨#[]⟩)], .bool false]) (by simp [results, Tryz.results72, go_sem, z0, z1, z2]) rfl ⟨ret_gv (n := noS) HF.out, HD _ _ _⟩
    | succ j =>
      have hq' : u6 = .int .i64 (j : Int) := by rw [hq]; congr 1; omega
      subst hq'
      have hlt : j < N := by omega
      have hji : (j : Int) < (N : Int) := by omega
      have hj0 : (0 : Int) ≤ (j : Int) := by omega
      obtain ⟨p, hp⟩ : ∃ p, E[j]? = some p := ⟨_, List.getElem?_eq_getElem (by rw [HN.out]; exact hlt)⟩
      obtain ⟨b, o, rfl, c0, c1, c2, c3⟩ := HEn.out.next HB.out j p hp
      have HPk : Hid (E[j]? = some p) := hp
      obtain ⟨pn, pk, pi, ps⟩ := p
      simp only at c0 c1 c2 c3
      clear hp hq
      by_cases he : pn = m
      · have d : (pn.toList == m.toList) = true := by rw [beq_ba]; exact decide_eq_true he
        have HF : Hid (R = (⟨pn, pk, pi, ps⟩, true)) := by rw [Hid, ← HR.out]; exact gtV_yes (gtB_hit E j _ m HPk.out he fun i x hi hx => HA.out i x (by omega) hx)
        clear he
        go_wp2
        exact bodyPost_ret (v := .tuple #[.agg #[.int .i64 (pk), .int .i64 (pi), .string (ps)], .bool true]) (by simp [results, Tryz.results72, go_sem, z0, z1, z2]) rfl ⟨ret_gv HF.out, HD _ _ _⟩
      · have d : (pn.toList == m.toList) = false := by rw [beq_ba]; exact decide_eq_false he
        have HA2 : Hid (∀ (i : Nat) (p : Sl), j ≤ i → E[i]? = some p → p.n ≠ m) := by
          intro i q hi hq
          by_cases e : i = j
          · subst e; rw [HPk.out] at hq; cases hq; exact he
          · exact HA.out i q (by omega) hq
        clear he
        go_wp2
        go_round
        case rel => exact ⟨j, by omega, by go_num, HA2⟩
        case measure => simp [intOf]
end Go.Proofs.YtnhbjhdkpbhioaaGreatDoor
