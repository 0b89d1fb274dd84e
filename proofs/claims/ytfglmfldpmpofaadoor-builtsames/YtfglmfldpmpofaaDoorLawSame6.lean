/- The walk of BuiltSames. -/
import Derived.Test.YtfglmfldpmpofaaDoorBtKnow
import Derived.Test.YtfglmfldpmpofaaDoorValRight3
namespace Go.Proofs.YtfglmfldpmpofaaDoor
open Go.RowKit

theorem sam_eq (v u : Val) : applyR (code ⟨#[101, 113]⟩) [v, u] = (⟨2, 0, boolS (sameV v u)⟩, 0) := rfl
theorem sam_neq (v u : Val) : applyR (code ⟨#[110, 101, 113]⟩) [v, u] = (⟨2, 0, boolS (!sameV v u)⟩, 0) := rfl
theorem sam_num {v u : Val} (h1 : v.k = 1) (h2 : u.k = 1) : applyR (code ⟨#[61]⟩) [v, u] = (⟨2, 0, boolS (decide (v.i = u.i))⟩, 0) := by
  have h : applyR (code ⟨#[61]⟩) [v, u] = numbersR 6 [v, u] := rfl
  rw [h]
  unfold numbersR
  have e : allInt [v, u] = true := by unfold allInt; simp [h1, h2]
  rw [if_pos e, if_pos (by decide)]
  show (boolV (chainB 6 [v.i, u.i]), (0 : Int)) = _
  have e2 : chainB 6 [v.i, u.i] = decide (v.i = u.i) := by
    show (standB 6 v.i u.i && true) = _
    rw [Bool.and_true]; rfl
  rw [e2]; rfl
theorem sam_none {v u : Val} (h : ¬ (v.k = 1 ∧ u.k = 1)) : applyR (code ⟨#[61]⟩) [v, u] = (⟨0, 0, ⟨#[]⟩⟩, 8) := by
  have h' : applyR (code ⟨#[61]⟩) [v, u] = numbersR 6 [v, u] := rfl
  rw [h']
  unfold numbersR
  have e : ¬ allInt [v, u] = true := by
    unfold allInt; simp; intro h1 h2; exact h ⟨h1, h2⟩
  rw [if_neg e]
  rfl
theorem sam_int {v u : Val} (h1 : v.k = 1) (h2 : u.k = 1) (r1 : rightB v.k v.i v.s = true) (r2 : rightB u.k u.i u.s = true) : decide (v.i = u.i) = sameV v u := by
  rw [h1, right_int, decide_eq_true_eq] at r1
  rw [h2, right_int, decide_eq_true_eq] at r2
  have e1 := size_nil v.s r1
  have e2 := size_nil u.s r2
  unfold sameV sameB
  rw [h1, h2, e1, e2, decide_eq_decide]
  simp

set_option maxHeartbeats 4000000 in
set_option maxRecDepth 8000 in
theorem sames_wrong (k i k' i' : Int) (s s' : ByteArray) (w : World) (hs : s.size ≤ 9223372036854775807) (hs' : s'.size ≤ 9223372036854775807) (h : rightB k i s = false ∨ (rightB k i s = true ∧ rightB k' i' s' = false)) (ht : TabW w) :
    Calls Tryd.prog 8 #[.agg #[.int .i64 (k), .int .i64 (i), .string (s)], .agg #[.int .i64 (k'), .int .i64 (i'), .string (s')]] w fun e w' => e = .returned (.bool true) ∧ Below w.heap.size w w' := by
  have HT : Hid (TabW ((w.alloc (.cells #[.int .i64 k, .int .i64 i, .string s] 26)).alloc (.cells #[.int .i64 k', .int .i64 i', .string s'] 26))) := tab_alloc (tab_alloc ht)
  have HA : Hid (∀ (q : Bool) (w : World), rightB k i s = q → Calls Tryd.prog 10 #[.agg #[.int .i64 (k), .int .i64 (i), .string (s)]] w fun e w' => e = .returned (.bool q) ∧ Below w.heap.size w w') := by
    intro q w hq; rw [← hq]; exact brright_any k i s w hs
  have HC : Hid (∀ (q : Bool) (w : World), rightB k' i' s' = q → Calls Tryd.prog 10 #[.agg #[.int .i64 (k'), .int .i64 (i'), .string (s')]] w fun e w' => e = .returned (.bool q) ∧ Below w.heap.size w w') := by
    intro q w hq; rw [← hq]; exact brright_any k' i' s' w hs'
  obtain ⟨B, HB⟩ : ∃ B, Hid (w.heap.size = B) := ⟨_, rfl⟩
  clear ht hs hs'
  have c0 : ∀ {w1 : World}, Below ((w.alloc (.cells #[.int .i64 k, .int .i64 i, .string s] 26)).alloc (.cells #[.int .i64 k', .int .i64 i', .string s'] 26)).heap.size ((w.alloc (.cells #[.int .i64 k, .int .i64 i, .string s] 26)).alloc (.cells #[.int .i64 k', .int .i64 i', .string s'] 26)) w1 →
      (w1.cell? ⟨w.heap.size, 0, none⟩ = some (.int .i64 k) ∧ w1.cell? ⟨w.heap.size, 1, none⟩ = some (.int .i64 i) ∧ w1.cell? ⟨w.heap.size, 2, none⟩ = some (.string s)) ∧ (w1.cell? ⟨w.heap.size + 1, 0, none⟩ = some (.int .i64 k') ∧ w1.cell? ⟨w.heap.size + 1, 1, none⟩ = some (.int .i64 i') ∧ w1.cell? ⟨w.heap.size + 1, 2, none⟩ = some (.string s')) := fun hb =>
    ⟨⟨keep_cell hb (alloc_cell (box0 rfl)), keep_cell hb (alloc_cell (box0 rfl)), keep_cell hb (alloc_cell (box0 rfl))⟩, ⟨keep_cell hb (box1 rfl), keep_cell hb (box1 rfl), keep_cell hb (box1 rfl)⟩⟩
  rcases h with h | ⟨h, h'⟩
  · go_enter Tryd.func8, Tryd.ntmps8
    go_wp2_with fail
    refine (known6 _ HT.out).mono ?_
    rintro e w1 ⟨rfl, hb1⟩
    obtain ⟨⟨a0, a1, a2⟩, ⟨a3, a4, a5⟩⟩ := c0 hb1
    have b1 : Hid (Below w.heap.size w w1) := next_trans' (next_trans' (alloc_below' _ _) (alloc_below' _ _)) hb1
    clear hb1 c0 HT
    go_wp2_with fail
    refine (HA.out false _ h).mono ?_
    rintro e w2 ⟨rfl, hb2⟩
    go_wp2
    go_ret
    exact ⟨rfl, next_trans' b1.out hb2⟩
  · go_enter Tryd.func8, Tryd.ntmps8
    go_wp2_with fail
    refine (known6 _ HT.out).mono ?_
    rintro e w1 ⟨rfl, hb1⟩
    obtain ⟨⟨a0, a1, a2⟩, ⟨a3, a4, a5⟩⟩ := c0 hb1
    have b1 : Hid (Below w.heap.size w w1) := next_trans' (next_trans' (alloc_below' _ _) (alloc_below' _ _)) hb1
    clear hb1 c0 HT
    go_wp2_with fail
    refine (HA.out true _ h).mono ?_
    rintro e w2 ⟨rfl, hb2⟩
    have d3 := keep_cell hb2 a3
    have d4 := keep_cell hb2 a4
    have d5 := keep_cell hb2 a5
    have b2 : Hid (Below w.heap.size w w2) := next_trans' b1.out hb2
    clear hb2 b1 a0 a1 a2 a3 a4 a5
    go_wp2_with fail
    refine (HC.out false _ h').mono ?_
    rintro e w3 ⟨rfl, hb3⟩
    go_wp2
    go_ret
    exact ⟨rfl, next_trans' b2.out hb3⟩
-- Both are right.
set_option maxHeartbeats 8000000 in
set_option maxRecDepth 100000 in
theorem sames_num (k i k' i' : Int) (s s' : ByteArray) (q : Bool) (w : World) (h : rightV ⟨k, i, s⟩) (h' : rightV ⟨k', i', s'⟩) (hq : sameB k i s k' i' s' = q) (c1 : (k == 1) = true) (c2 : (k' == 1) = true) (hq3 : applyR (code ⟨#[61]⟩) [⟨k, i, s⟩, ⟨k', i', s'⟩] = (⟨2, 0, boolS q⟩, 0)) (ht : TabW w) :
    Calls Tryd.prog 8 #[.agg #[.int .i64 (k), .int .i64 (i), .string (s)], .agg #[.int .i64 (k'), .int .i64 (i'), .string (s')]] w fun e w' => e = .returned (.bool true) ∧ Below w.heap.size w w' := by
  obtain ⟨W0, HW0⟩ : ∃ W0, W0 = (w.alloc (.cells #[.int .i64 k, .int .i64 i, .string s] 26)).alloc (.cells #[.int .i64 k', .int .i64 i', .string s'] 26) := ⟨_, rfl⟩
  have HT : Hid (TabW W0) := by rw [HW0]; exact tab_alloc (tab_alloc ht)
  obtain ⟨n1, Hn1⟩ : ∃ n1, w.heap.size = n1 := ⟨_, rfl⟩
  have a0 : W0.cell? ⟨n1, 0, none⟩ = some (.int .i64 k) := by rw [HW0, ← Hn1]; exact alloc_cell (box0 rfl)
  have a1 : W0.cell? ⟨n1, 1, none⟩ = some (.int .i64 i) := by rw [HW0, ← Hn1]; exact alloc_cell (box0 rfl)
  have a2 : W0.cell? ⟨n1, 2, none⟩ = some (.string s) := by rw [HW0, ← Hn1]; exact alloc_cell (box0 rfl)
  have b0 : W0.cell? ⟨n1 + 1, 0, none⟩ = some (.int .i64 k') := by rw [HW0, ← Hn1]; exact box1 rfl
  have b1 : W0.cell? ⟨n1 + 1, 1, none⟩ = some (.int .i64 i') := by rw [HW0, ← Hn1]; exact box1 rfl
  have b2 : W0.cell? ⟨n1 + 1, 2, none⟩ = some (.string s') := by rw [HW0, ← Hn1]; exact box1 rfl
  have HWb : Hid (Below w.heap.size w W0) := by rw [HW0]; exact next_trans' (alloc_below' _ _) (alloc_below' _ _)
  have HA : Hid (∀ w : World, Calls Tryd.prog 10 #[.agg #[.int .i64 (k), .int .i64 (i), .string (s)]] w fun e w' => e = .returned (.bool true) ∧ Below w.heap.size w w') := by
    intro w; rw [← h.1]; exact brright_any k i s w (by have := right_bd h; simp at this; omega)
  have HC : Hid (∀ w : World, Calls Tryd.prog 10 #[.agg #[.int .i64 (k'), .int .i64 (i'), .string (s')]] w fun e w' => e = .returned (.bool true) ∧ Below w.heap.size w w') := by
    intro w; rw [← h'.1]; exact brright_any k' i' s' w (by have := right_bd h'; simp at this; omega)
  have HSm : Hid (∀ w : World, Calls Tryd.prog 15 #[.agg #[.int .i64 (k), .int .i64 (i), .string (s)], .agg #[.int .i64 (k'), .int .i64 (i'), .string (s')]] w fun e w' => e = .returned (.bool q) ∧ Below w.heap.size w w') := by
    intro w; rw [← hq]; exact rsame_any k i k' i' s s' w
  have HRf : Hid (∀ (k i : Int) (s : ByteArray) (w : World), Calls Tryd.prog 15 #[.agg #[.int .i64 (k), .int .i64 (i), .string (s)], .agg #[.int .i64 (k), .int .i64 (i), .string (s)]] w fun e w' => e = .returned (.bool true) ∧ Below w.heap.size w w') := by
    intro k i s w; rw [← sameB_refl k i s]; exact rsame_any k i k i s s w
  have HR2 : Hid (∀ v ∈ [(⟨k, i, s⟩ : Val), ⟨k', i', s'⟩], rightV v) := by
    intro v hv
    simp at hv
    rcases hv with rfl | rfl
    · exact h
    · exact h'
  have HQ1 : Hid (applyR (code ⟨#[101, 113]⟩) [⟨k, i, s⟩, ⟨k', i', s'⟩] = (⟨2, 0, boolS q⟩, 0)) := by rw [Hid, sam_eq]; show ((⟨2, 0, boolS (sameB k i s k' i' s')⟩ : Val), (0 : Int)) = _; rw [hq]
  have HQ2 : Hid (applyR (code ⟨#[110, 101, 113]⟩) [⟨k, i, s⟩, ⟨k', i', s'⟩] = (⟨2, 0, boolS (!q)⟩, 0)) := by rw [Hid, sam_neq]; show ((⟨2, 0, boolS (!sameB k i s k' i' s')⟩ : Val), (0 : Int)) = _; rw [hq]
  have HQ3 : Hid (applyR (code ⟨#[61]⟩) [⟨k, i, s⟩, ⟨k', i', s'⟩] = (⟨2, 0, (boolS q)⟩, 0)) := hq3
  clear ht h h' hq hq3
  go_enter Tryd.func8, Tryd.ntmps8
  go_wp2_with fail
  rw [← HW0]
  refine (known6 _ HT.out).mono ?_
  rintro e w1 ⟨rfl, hb1⟩
  have c0 := keep_cell hb1 a0
  have c1' := keep_cell hb1 a1
  have c2' := keep_cell hb1 a2
  have d0 := keep_cell hb1 b0
  have d1 := keep_cell hb1 b1
  have d2 := keep_cell hb1 b2
  have B1 : Hid (Below w.heap.size w w1) := next_trans' HWb.out hb1
  have T1 : Hid (TabW w1) := tab_next HT.out hb1
  clear hb1 a0 a1 a2 b0 b1 b2 HW0 HWb HT
  go_wp2_with fail
  refine (HA.out _).mono ?_
  rintro e w2 ⟨rfl, hb2⟩
  have e0 := keep_cell hb2 c0
  have e1 := keep_cell hb2 c1'
  have e2 := keep_cell hb2 c2'
  have f0 := keep_cell hb2 d0
  have f1 := keep_cell hb2 d1
  have f2 := keep_cell hb2 d2
  have B2 : Hid (Below w.heap.size w w2) := next_trans' B1.out hb2
  have T2 : Hid (TabW w2) := tab_next T1.out hb2
  clear hb2 c0 c1' c2' d0 d1 d2 B1 T1
  go_wp2_with fail
  refine (HC.out _).mono ?_
  rintro e w3 ⟨rfl, hb3⟩
  have c0 := keep_cell hb3 e0
  have c1' := keep_cell hb3 e1
  have c2' := keep_cell hb3 e2
  have d0 := keep_cell hb3 f0
  have d1 := keep_cell hb3 f1
  have d2 := keep_cell hb3 f2
  have B3 : Hid (Below w.heap.size w w3) := next_trans' B2.out hb3
  have T3 : Hid (TabW w3) := tab_next T2.out hb3
  clear hb3 e0 e1 e2 f0 f1 f2 B2 T2
  obtain ⟨n3, Hn3⟩ : ∃ n3, w3.heap.size = n3 := ⟨_, rfl⟩
  have HL : Hid (IsVals (w3.alloc (.cells #[.int .i64 k, .int .i64 i, .string s, .int .i64 k', .int .i64 i', .string s'] 26)) (some ⟨n3, 0, none⟩) [⟨k, i, s⟩, ⟨k', i', s'⟩]) := lit_vals w3 n3 [⟨k, i, s⟩, ⟨k', i', s'⟩] Hn3.symm
  have T4 : Hid (TabW (w3.alloc (.cells #[.int .i64 k, .int .i64 i, .string s, .int .i64 k', .int .i64 i', .string s'] 26))) := tab_alloc T3.out
  go_wp2_with fail
  refine (apply_any ⟨#[101, 113]⟩ 2 0 0 (boolS q) _ 2 2 _ _ rfl (by decide) HL.out HR2.out T4.out HQ1.out).mono ?_
  rintro e w4 ⟨rfl, hb4⟩
  have e0 := keep_cell hb4 (alloc_cell c0)
  have e1 := keep_cell hb4 (alloc_cell c1')
  have e2 := keep_cell hb4 (alloc_cell c2')
  have f0 := keep_cell hb4 (alloc_cell d0)
  have f1 := keep_cell hb4 (alloc_cell d1)
  have f2 := keep_cell hb4 (alloc_cell d2)
  have B4 : Hid (Below w.heap.size w w4) := next_trans' (next_trans' B3.out (alloc_below' _ _)) hb4
  obtain ⟨x1, Hx1⟩ : ∃ x1, w4.heap.size = x1 := ⟨_, rfl⟩
  have g0 : Hid ((w4.alloc (.cells #[.int .i64 2, .int .i64 0, .string (boolS q)] 26)).cell? ⟨x1, 0, none⟩ = some (.int .i64 2)) := box_cell Hx1.symm rfl
  have g1 : Hid ((w4.alloc (.cells #[.int .i64 2, .int .i64 0, .string (boolS q)] 26)).cell? ⟨x1, 1, none⟩ = some (.int .i64 0)) := box_cell Hx1.symm rfl
  have g2 : Hid ((w4.alloc (.cells #[.int .i64 2, .int .i64 0, .string (boolS q)] 26)).cell? ⟨x1, 2, none⟩ = some (.string (boolS q))) := box_cell Hx1.symm rfl
  have HL5 : Hid (IsVals (w4.alloc (.cells #[.int .i64 2, .int .i64 0, .string (boolS q)] 26)) (some ⟨n3, 0, none⟩) [⟨k, i, s⟩, ⟨k', i', s'⟩]) := (HL.out.next hb4).next (alloc_below' _ _)
  have T5 : Hid (TabW (w4.alloc (.cells #[.int .i64 2, .int .i64 0, .string (boolS q)] 26))) := tab_alloc (tab_next T4.out hb4)
  clear hb4 c0 c1' c2' d0 d1 d2 B3 T3 T4 HL Hn3 HQ1
  go_wp2_with fail
  refine (apply_any ⟨#[110, 101, 113]⟩ 2 0 0 (boolS (!q)) _ 2 2 _ _ rfl (by decide) HL5.out HR2.out T5.out HQ2.out).mono ?_
  rintro e w5 ⟨rfl, hb5⟩
  have c0 := keep_cell hb5 (alloc_cell e0)
  have c1' := keep_cell hb5 (alloc_cell e1)
  have c2' := keep_cell hb5 (alloc_cell e2)
  have d0 := keep_cell hb5 (alloc_cell f0)
  have d1 := keep_cell hb5 (alloc_cell f1)
  have d2 := keep_cell hb5 (alloc_cell f2)
  have p0 := keep_cell hb5 g0.out
  have p1 := keep_cell hb5 g1.out
  have p2 := keep_cell hb5 g2.out
  have B5 : Hid (Below w.heap.size w w5) := next_trans' (next_trans' B4.out (alloc_below' _ _)) hb5
  obtain ⟨x2, Hx2⟩ : ∃ x2, w5.heap.size = x2 := ⟨_, rfl⟩
  have h0 : Hid ((w5.alloc (.cells #[.int .i64 2, .int .i64 0, .string (boolS (!q))] 26)).cell? ⟨x2, 0, none⟩ = some (.int .i64 2)) := box_cell Hx2.symm rfl
  have h1 : Hid ((w5.alloc (.cells #[.int .i64 2, .int .i64 0, .string (boolS (!q))] 26)).cell? ⟨x2, 1, none⟩ = some (.int .i64 0)) := box_cell Hx2.symm rfl
  have h2 : Hid ((w5.alloc (.cells #[.int .i64 2, .int .i64 0, .string (boolS (!q))] 26)).cell? ⟨x2, 2, none⟩ = some (.string (boolS (!q)))) := box_cell Hx2.symm rfl
  have HL6 : Hid (IsVals (w5.alloc (.cells #[.int .i64 2, .int .i64 0, .string (boolS (!q))] 26)) (some ⟨n3, 0, none⟩) [⟨k, i, s⟩, ⟨k', i', s'⟩]) := (HL5.out.next hb5).next (alloc_below' _ _)
  have T6 : Hid (TabW (w5.alloc (.cells #[.int .i64 2, .int .i64 0, .string (boolS (!q))] 26))) := tab_alloc (tab_next T5.out hb5)
  clear hb5 e0 e1 e2 f0 f1 f2 g0 g1 g2 B4 T5 HL5 Hx1 HQ2
  go_wp2_with fail
  refine (apply_any ⟨#[61]⟩ 2 0 0 (boolS q) _ 2 2 _ _ rfl (by decide) HL6.out HR2.out T6.out HQ3.out).mono ?_
  rintro e w6 ⟨rfl, hb6⟩
  obtain ⟨x3, Hx3⟩ : ∃ x3, w6.heap.size = x3 := ⟨_, rfl⟩
  have e0 := keep_cell hb6 (alloc_cell c0)
  have e3 := keep_cell hb6 (alloc_cell d0)
  have k1 : n1 < x3 := by rw [← Hx3]; exact World.block_lt_of_cell? _ _ e0
  have k2 : n1 + 1 < x3 := by rw [← Hx3]; exact World.block_lt_of_cell? _ _ e3
  obtain ⟨W, HW⟩ : ∃ W, W = w6.alloc (.cells #[.int .i64 2, .int .i64 0, .string (boolS q)] 26) := ⟨_, rfl⟩
  have ga0 : W.drew.cell? ⟨n1, 0, none⟩ = some (.int .i64 k) := by rw [HW]; exact alloc_cell e0
  have ga1 : W.drew.cell? ⟨n1, 1, none⟩ = some (.int .i64 i) := by rw [HW]; exact alloc_cell (keep_cell hb6 (alloc_cell c1'))
  have ga2 : W.drew.cell? ⟨n1, 2, none⟩ = some (.string s) := by rw [HW]; exact alloc_cell (keep_cell hb6 (alloc_cell c2'))
  have gb0 : W.drew.cell? ⟨n1 + 1, 0, none⟩ = some (.int .i64 k') := by rw [HW]; exact alloc_cell e3
  have gb1 : W.drew.cell? ⟨n1 + 1, 1, none⟩ = some (.int .i64 i') := by rw [HW]; exact alloc_cell (keep_cell hb6 (alloc_cell d1))
  have gb2 : W.drew.cell? ⟨n1 + 1, 2, none⟩ = some (.string s') := by rw [HW]; exact alloc_cell (keep_cell hb6 (alloc_cell d2))
  have gx0 : W.drew.cell? ⟨x1, 0, none⟩ = some (.int .i64 2) := by rw [HW]; exact alloc_cell (keep_cell hb6 (alloc_cell p0))
  have gx1 : W.drew.cell? ⟨x1, 1, none⟩ = some (.int .i64 0) := by rw [HW]; exact alloc_cell (keep_cell hb6 (alloc_cell p1))
  have gx2 : W.drew.cell? ⟨x1, 2, none⟩ = some (.string (boolS q)) := by rw [HW]; exact alloc_cell (keep_cell hb6 (alloc_cell p2))
  have gy0 : W.drew.cell? ⟨x2, 0, none⟩ = some (.int .i64 2) := by rw [HW]; exact alloc_cell (keep_cell hb6 h0.out)
  have gy1 : W.drew.cell? ⟨x2, 1, none⟩ = some (.int .i64 0) := by rw [HW]; exact alloc_cell (keep_cell hb6 h1.out)
  have gy2 : W.drew.cell? ⟨x2, 2, none⟩ = some (.string (boolS (!q))) := by rw [HW]; exact alloc_cell (keep_cell hb6 h2.out)
  have gz0 : W.drew.cell? ⟨x3, 0, none⟩ = some (.int .i64 2) := by rw [HW]; exact box_cell Hx3.symm rfl
  have gz1 : W.drew.cell? ⟨x3, 1, none⟩ = some (.int .i64 0) := by rw [HW]; exact box_cell Hx3.symm rfl
  have gz2 : W.drew.cell? ⟨x3, 2, none⟩ = some (.string (boolS q)) := by rw [HW]; exact box_cell Hx3.symm rfl
  have s0 : Below w.heap.size w W.drew := by rw [HW]; exact (next_trans' (next_trans' (next_trans' B5.out (alloc_below' _ _)) hb6) (alloc_below' _ _)).drew
  have s1 : w.heap.size ≤ W.drew.heap.size := s0.size
  clear hb6 c1' c2' d1 d2 p0 p1 p2 h0 h1 h2 B5 T6 HL6 HQ3 HR2 HA HC c0 d0
  go_wp2_with fail
  rw [← HW]
  clear HW Hx2 Hx3
  have hwrap : IntKind.i64.wrap 0 = 0 := by decide
  refine wp_region_held_drew (S := (fun w' => w'.cell? ⟨n1, 0, none⟩ = some (.int .i64 k) ∧ w'.cell? ⟨n1, 1, none⟩ = some (.int .i64 i) ∧ w'.cell? ⟨n1, 2, none⟩ = some (.string s) ∧ w'.cell? ⟨n1 + 1, 0, none⟩ = some (.int .i64 k') ∧ w'.cell? ⟨n1 + 1, 1, none⟩ = some (.int .i64 i') ∧ w'.cell? ⟨n1 + 1, 2, none⟩ = some (.string s') ∧ w'.cell? ⟨x1, 0, none⟩ = some (.int .i64 2) ∧ w'.cell? ⟨x1, 1, none⟩ = some (.int .i64 0) ∧ w'.cell? ⟨x1, 2, none⟩ = some (.string (boolS q)) ∧ w'.cell? ⟨x2, 0, none⟩ = some (.int .i64 2) ∧ w'.cell? ⟨x2, 1, none⟩ = some (.int .i64 0) ∧ w'.cell? ⟨x2, 2, none⟩ = some (.string (boolS (!q))) ∧ w'.cell? ⟨x3, 0, none⟩ = some (.int .i64 2) ∧ w'.cell? ⟨x3, 1, none⟩ = some (.int .i64 0) ∧ w'.cell? ⟨x3, 2, none⟩ = some (.string (boolS q)) ∧ Below w.heap.size w w' ∧ w.heap.size ≤ w'.heap.size)) (by kernel_rfl) ?_ (fun hHeldA => ?_)
  · exact ⟨ga0, ga1, ga2, gb0, gb1, gb2, gx0, gx1, gx2, gy0, gy1, gy2, gz0, gz1, gz2, s0, s1⟩
  refine wpAnyH_take (i := 0) (oi := { dst := some 49, op := Op.move (Operand.tmp 7), type := 27, pos := "more.go:69", after := #[], guard := none }) (v := ?_) rfl (by kernel_rfl) (by kernel_rfl) (by kernel_rfl) (fun _ _ _ h => h) (Or.inl ⟨by rfl, ?hyA0⟩) (by assumption) ?_
  case hyA0 => (intro w hSw; (try dsimp only at hSw); go_simp; try with_reducible rfl)
  (try simp only [Act.put, List.setIfInBounds_toArray, List.set_cons_zero, List.set_cons_succ])
  refine wpAnyH_take (i := 1) (oi := { dst := some 50, op := Op.move (Operand.tmp 9), type := 27, pos := "more.go:69", after := #[], guard := none }) (v := ?_) rfl (by kernel_rfl) (by kernel_rfl) (by kernel_rfl) (fun _ _ _ h => h) (Or.inl ⟨by rfl, ?hyA1⟩) (by assumption) ?_
  case hyA1 => (intro w hSw; (try dsimp only at hSw); go_simp; try with_reducible rfl)
  (try simp only [Act.put, List.setIfInBounds_toArray, List.set_cons_zero, List.set_cons_succ])
  refine wpAnyH_take (i := 2) (oi := { dst := some 51, op := Op.binOp BinOp.add 3 (Operand.tmp 49) (Operand.tmp 50) 3, type := 3, pos := "more.go:69", after := #[{ on := 0, ground := Ground.data }, { on := 1, ground := Ground.data }], guard := none }) (v := ?_) rfl (by kernel_rfl) (by kernel_rfl) (by kernel_rfl) (fun _ _ _ h => h) (Or.inl ⟨by rfl, ?hyA2⟩) (by assumption) ?_
  case hyA2 => (intro w hSw; (try dsimp only at hSw); go_simp; try with_reducible rfl)
  (try simp only [Act.put, List.setIfInBounds_toArray, List.set_cons_zero, List.set_cons_succ])
  refine wpAnyH_take (i := 3) (oi := { dst := some 52, op := Op.binOp BinOp.eql 3 (Operand.tmp 51) (Operand.const (Value.int IntKind.i64 0)) 3, type := 4, pos := "more.go:69", after := #[{ on := 2, ground := Ground.data }], guard := none }) (v := ?_) rfl (by kernel_rfl) (by kernel_rfl) (by kernel_rfl) (fun _ _ _ h => h) (Or.inl ⟨by rfl, ?hyA3⟩) (by assumption) ?_
  case hyA3 => (intro w hSw; (try dsimp only at hSw); go_simp; try with_reducible rfl)
  (try simp only [Act.put, List.setIfInBounds_toArray, List.set_cons_zero, List.set_cons_succ])
  refine wpAnyH_take (i := 4) (oi := { dst := some 53, op := Op.move (Operand.tmp 52), type := 4, pos := "more.go:69", after := #[{ on := 3, ground := Ground.data }], guard := none }) (v := ?_) rfl (by kernel_rfl) (by kernel_rfl) (by kernel_rfl) (fun _ _ _ h => h) (Or.inl ⟨by rfl, ?hyA4⟩) (by assumption) ?_
  case hyA4 => (intro w hSw; (try dsimp only at hSw); go_simp; try with_reducible rfl)
  (try simp only [Act.put, List.setIfInBounds_toArray, List.set_cons_zero, List.set_cons_succ])
  refine wpAnyH_take (i := 5) (oi := { dst := some 54, op := Op.load 26 (Operand.tmp 6), type := 26, pos := "more.go:69", after := #[{ on := 4, ground := Ground.guard }], guard := some (4, true) }) (v := ?_) rfl (by kernel_rfl) (by kernel_rfl) (by kernel_rfl) (fun _ _ _ h => h) (Or.inl ⟨by rfl, ?hyA5⟩) (by assumption) ?_
  case hyA5 => (intro w hSw; (try dsimp only at hSw); go_simp; try with_reducible rfl)
  (try simp only [Act.put, List.setIfInBounds_toArray, List.set_cons_zero, List.set_cons_succ])
  refine wpAnyH_take (i := 6) (oi := { dst := some 55, op := Op.load 26 (Operand.tmp 2), type := 26, pos := "more.go:69", after := #[{ on := 4, ground := Ground.guard }], guard := some (4, true) }) (v := ?_) rfl (by kernel_rfl) (by kernel_rfl) (by kernel_rfl) (fun _ _ _ h => h) (Or.inl ⟨by rfl, ?hyA6⟩) (by assumption) ?_
  case hyA6 => (intro w hSw; (try dsimp only at hSw); go_simp; try with_reducible rfl)
  (try simp only [Act.put, List.setIfInBounds_toArray, List.set_cons_zero, List.set_cons_succ])
  refine wpAnyH_take (i := 7) (oi := { dst := some 56, op := Op.load 26 (Operand.tmp 3), type := 26, pos := "more.go:69", after := #[{ on := 4, ground := Ground.guard }], guard := some (4, true) }) (v := ?_) rfl (by kernel_rfl) (by kernel_rfl) (by kernel_rfl) (fun _ _ _ h => h) (Or.inl ⟨by rfl, ?hyA7⟩) (by assumption) ?_
  case hyA7 => (intro w hSw; (try dsimp only at hSw); go_simp; try with_reducible rfl)
  (try simp only [Act.put, List.setIfInBounds_toArray, List.set_cons_zero, List.set_cons_succ])
  refine wpAnyH_ready (rs := [8]) (by kernel_rfl) (by simp) ?_
  refine AllReadyH.cons (o := { dst := some 57, op := Op.call { callee := Callee.value (Operand.func 15), args := #[Operand.tmp 55, Operand.tmp 56], argTypes := #[26, 26] }, type := 4, pos := "more.go:69", after := #[{ on := 6, ground := Ground.data }, { on := 7, ground := Ground.data }, { on := 4, ground := Ground.chain }, { on := 4, ground := Ground.guard }], guard := some (4, true) }) rfl (fun K hK => ?_) AllReadyH.nil
  go_simp
  with_reducible refine (HSm.out _).mono ?_
  rintro e w' ⟨rfl, hb⟩
  refine hK.out _ _ ?_ (fun hHeldAx => ?_)
  · obtain ⟨q0, q1, q2, q3, q4, q5, q6, q7, q8, q9, q10, q11, q12, q13, q14, q15, q16⟩ := hHeldA
    exact ⟨keep_cell hb q0, keep_cell hb q1, keep_cell hb q2, keep_cell hb q3, keep_cell hb q4, keep_cell hb q5, keep_cell hb q6, keep_cell hb q7, keep_cell hb q8, keep_cell hb q9, keep_cell hb q10, keep_cell hb q11, keep_cell hb q12, keep_cell hb q13, keep_cell hb q14, below_next q15 hb q16, le_next q16 hb⟩
  clear hK K hb hHeldA
  (try simp only [Act.put, List.setIfInBounds_toArray, List.set_cons_zero, List.set_cons_succ])
  refine wpAnyH_ready (rs := [9]) (by kernel_rfl) (by simp) ?_
  refine AllReadyH.cons (o := { dst := some 58, op := Op.call { callee := Callee.value (Operand.func 21), args := #[Operand.tmp 57], argTypes := #[4] }, type := 26, pos := "more.go:69", after := #[{ on := 8, ground := Ground.data }, { on := 8, ground := Ground.chain }, { on := 4, ground := Ground.guard }], guard := some (4, true) }) rfl (fun K hK => ?_) AllReadyH.nil
  go_simp
  with_reducible refine (rbool_any _ _).mono ?_
  rintro e w' ⟨rfl, hb⟩
  refine hK.out _ _ ?_ (fun hHeldAxx => ?_)
  · obtain ⟨q0, q1, q2, q3, q4, q5, q6, q7, q8, q9, q10, q11, q12, q13, q14, q15, q16⟩ := hHeldAx
    exact ⟨keep_cell hb q0, keep_cell hb q1, keep_cell hb q2, keep_cell hb q3, keep_cell hb q4, keep_cell hb q5, keep_cell hb q6, keep_cell hb q7, keep_cell hb q8, keep_cell hb q9, keep_cell hb q10, keep_cell hb q11, keep_cell hb q12, keep_cell hb q13, keep_cell hb q14, below_next q15 hb q16, le_next q16 hb⟩
  clear hK K hb hHeldAx
  (try simp only [Act.put, List.setIfInBounds_toArray, List.set_cons_zero, List.set_cons_succ])
  refine wpAnyH_ready (rs := [10]) (by kernel_rfl) (by simp) ?_
  refine AllReadyH.cons (o := { dst := some 59, op := Op.call { callee := Callee.value (Operand.func 15), args := #[Operand.tmp 54, Operand.tmp 58], argTypes := #[26, 26] }, type := 4, pos := "more.go:69", after := #[{ on := 5, ground := Ground.data }, { on := 9, ground := Ground.data }, { on := 9, ground := Ground.chain }, { on := 4, ground := Ground.guard }], guard := some (4, true) }) rfl (fun K hK => ?_) AllReadyH.nil
  go_simp
  with_reducible refine (HRf.out _ _ _ _).mono ?_
  rintro e w' ⟨rfl, hb⟩
  refine hK.out _ _ ?_ (fun hHeldAxxx => ?_)
  · obtain ⟨q0, q1, q2, q3, q4, q5, q6, q7, q8, q9, q10, q11, q12, q13, q14, q15, q16⟩ := hHeldAxx
    exact ⟨keep_cell hb q0, keep_cell hb q1, keep_cell hb q2, keep_cell hb q3, keep_cell hb q4, keep_cell hb q5, keep_cell hb q6, keep_cell hb q7, keep_cell hb q8, keep_cell hb q9, keep_cell hb q10, keep_cell hb q11, keep_cell hb q12, keep_cell hb q13, keep_cell hb q14, below_next q15 hb q16, le_next q16 hb⟩
  clear hK K hb hHeldAxx
  (try simp only [Act.put, List.setIfInBounds_toArray, List.set_cons_zero, List.set_cons_succ])
  refine wpAnyH_take (i := 11) (oi := { dst := some 60, op := Op.pick (Operand.tmp 53) (Operand.tmp 59) (Operand.const (Value.bool false)), type := 4, pos := "more.go:69", after := #[{ on := 4, ground := Ground.data }, { on := 10, ground := Ground.data }], guard := none }) (v := ?_) rfl (by kernel_rfl) (by kernel_rfl) (by kernel_rfl) (fun _ _ _ h => h) (Or.inl ⟨by rfl, ?hyA11⟩) (by assumption) ?_
  case hyA11 => (intro w hSw; (try dsimp only at hSw); go_simp; try with_reducible rfl)
  (try simp only [Act.put, List.setIfInBounds_toArray, List.set_cons_zero, List.set_cons_succ])
  refine wpAnyH_take (i := 12) (oi := { dst := some 61, op := Op.move (Operand.tmp 60), type := 4, pos := "more.go:69", after := #[{ on := 11, ground := Ground.data }, { on := 10, ground := Ground.chain }], guard := none }) (v := ?_) rfl (by kernel_rfl) (by kernel_rfl) (by kernel_rfl) (fun _ _ _ h => h) (Or.inl ⟨by rfl, ?hyA12⟩) (by assumption) ?_
  case hyA12 => (intro w hSw; (try dsimp only at hSw); go_simp; try with_reducible rfl)
  (try simp only [Act.put, List.setIfInBounds_toArray, List.set_cons_zero, List.set_cons_succ])
  refine wpAnyH_take (i := 13) (oi := { dst := some 62, op := Op.load 26 (Operand.tmp 8), type := 26, pos := "more.go:69", after := #[{ on := 12, ground := Ground.guard }], guard := some (12, true) }) (v := ?_) rfl (by kernel_rfl) (by kernel_rfl) (by kernel_rfl) (fun _ _ _ h => h) (Or.inl ⟨by rfl, ?hyA13⟩) (by assumption) ?_
  case hyA13 => (intro w hSw; (try dsimp only at hSw); go_simp; try with_reducible rfl)
  (try simp only [Act.put, List.setIfInBounds_toArray, List.set_cons_zero, List.set_cons_succ])
  refine wpAnyH_take (i := 14) (oi := { dst := some 63, op := Op.load 26 (Operand.tmp 2), type := 26, pos := "more.go:69", after := #[{ on := 12, ground := Ground.guard }], guard := some (12, true) }) (v := ?_) rfl (by kernel_rfl) (by kernel_rfl) (by kernel_rfl) (fun _ _ _ h => h) (Or.inl ⟨by rfl, ?hyA14⟩) (by assumption) ?_
  case hyA14 => (intro w hSw; (try dsimp only at hSw); go_simp; try with_reducible rfl)
  (try simp only [Act.put, List.setIfInBounds_toArray, List.set_cons_zero, List.set_cons_succ])
  refine wpAnyH_take (i := 15) (oi := { dst := some 64, op := Op.load 26 (Operand.tmp 3), type := 26, pos := "more.go:69", after := #[{ on := 12, ground := Ground.guard }], guard := some (12, true) }) (v := ?_) rfl (by kernel_rfl) (by kernel_rfl) (by kernel_rfl) (fun _ _ _ h => h) (Or.inl ⟨by rfl, ?hyA15⟩) (by assumption) ?_
  case hyA15 => (intro w hSw; (try dsimp only at hSw); go_simp; try with_reducible rfl)
  (try simp only [Act.put, List.setIfInBounds_toArray, List.set_cons_zero, List.set_cons_succ])
  refine wpAnyH_ready (rs := [16]) (by kernel_rfl) (by simp) ?_
  refine AllReadyH.cons (o := { dst := some 65, op := Op.call { callee := Callee.value (Operand.func 15), args := #[Operand.tmp 63, Operand.tmp 64], argTypes := #[26, 26] }, type := 4, pos := "more.go:69", after := #[{ on := 14, ground := Ground.data }, { on := 15, ground := Ground.data }, { on := 12, ground := Ground.chain }, { on := 12, ground := Ground.guard }], guard := some (12, true) }) rfl (fun K hK => ?_) AllReadyH.nil
  go_simp
  with_reducible refine (HSm.out _).mono ?_
  rintro e w' ⟨rfl, hb⟩
  refine hK.out _ _ ?_ (fun hHeldAxxxx => ?_)
  · obtain ⟨q0, q1, q2, q3, q4, q5, q6, q7, q8, q9, q10, q11, q12, q13, q14, q15, q16⟩ := hHeldAxxx
    exact ⟨keep_cell hb q0, keep_cell hb q1, keep_cell hb q2, keep_cell hb q3, keep_cell hb q4, keep_cell hb q5, keep_cell hb q6, keep_cell hb q7, keep_cell hb q8, keep_cell hb q9, keep_cell hb q10, keep_cell hb q11, keep_cell hb q12, keep_cell hb q13, keep_cell hb q14, below_next q15 hb q16, le_next q16 hb⟩
  clear hK K hb hHeldAxxx
  (try simp only [Act.put, List.setIfInBounds_toArray, List.set_cons_zero, List.set_cons_succ])
  refine wpAnyH_take (i := 17) (oi := { dst := some 66, op := Op.unOp UnOp.not 4 (Operand.tmp 65), type := 4, pos := "more.go:69", after := #[{ on := 16, ground := Ground.data }, { on := 12, ground := Ground.guard }], guard := some (12, true) }) (v := ?_) rfl (by kernel_rfl) (by kernel_rfl) (by kernel_rfl) (fun _ _ _ h => h) (Or.inl ⟨by rfl, ?hyA17⟩) (by assumption) ?_
  case hyA17 => (intro w hSw; (try dsimp only at hSw); go_simp; try with_reducible rfl)
  (try simp only [Act.put, List.setIfInBounds_toArray, List.set_cons_zero, List.set_cons_succ])
  refine wpAnyH_ready (rs := [18]) (by kernel_rfl) (by simp) ?_
  refine AllReadyH.cons (o := { dst := some 67, op := Op.call { callee := Callee.value (Operand.func 21), args := #[Operand.tmp 66], argTypes := #[4] }, type := 26, pos := "more.go:69", after := #[{ on := 17, ground := Ground.data }, { on := 16, ground := Ground.chain }, { on := 12, ground := Ground.guard }], guard := some (12, true) }) rfl (fun K hK => ?_) AllReadyH.nil
  go_simp
  with_reducible refine (rbool_any _ _).mono ?_
  rintro e w' ⟨rfl, hb⟩
  refine hK.out _ _ ?_ (fun hHeldAxxxxx => ?_)
  · obtain ⟨q0, q1, q2, q3, q4, q5, q6, q7, q8, q9, q10, q11, q12, q13, q14, q15, q16⟩ := hHeldAxxxx
    exact ⟨keep_cell hb q0, keep_cell hb q1, keep_cell hb q2, keep_cell hb q3, keep_cell hb q4, keep_cell hb q5, keep_cell hb q6, keep_cell hb q7, keep_cell hb q8, keep_cell hb q9, keep_cell hb q10, keep_cell hb q11, keep_cell hb q12, keep_cell hb q13, keep_cell hb q14, below_next q15 hb q16, le_next q16 hb⟩
  clear hK K hb hHeldAxxxx
  (try simp only [Act.put, List.setIfInBounds_toArray, List.set_cons_zero, List.set_cons_succ])
  refine wpAnyH_ready (rs := [19]) (by kernel_rfl) (by simp) ?_
  refine AllReadyH.cons (o := { dst := some 68, op := Op.call { callee := Callee.value (Operand.func 15), args := #[Operand.tmp 62, Operand.tmp 67], argTypes := #[26, 26] }, type := 4, pos := "more.go:69", after := #[{ on := 13, ground := Ground.data }, { on := 18, ground := Ground.data }, { on := 18, ground := Ground.chain }, { on := 12, ground := Ground.guard }], guard := some (12, true) }) rfl (fun K hK => ?_) AllReadyH.nil
  go_simp
  with_reducible refine (HRf.out _ _ _ _).mono ?_
  rintro e w' ⟨rfl, hb⟩
  refine hK.out _ _ ?_ (fun hHeldAxxxxxx => ?_)
  · obtain ⟨q0, q1, q2, q3, q4, q5, q6, q7, q8, q9, q10, q11, q12, q13, q14, q15, q16⟩ := hHeldAxxxxx
    exact ⟨keep_cell hb q0, keep_cell hb q1, keep_cell hb q2, keep_cell hb q3, keep_cell hb q4, keep_cell hb q5, keep_cell hb q6, keep_cell hb q7, keep_cell hb q8, keep_cell hb q9, keep_cell hb q10, keep_cell hb q11, keep_cell hb q12, keep_cell hb q13, keep_cell hb q14, below_next q15 hb q16, le_next q16 hb⟩
  clear hK K hb hHeldAxxxxx
  (try simp only [Act.put, List.setIfInBounds_toArray, List.set_cons_zero, List.set_cons_succ])
  refine wpAnyH_take (i := 20) (oi := { dst := some 69, op := Op.pick (Operand.tmp 61) (Operand.tmp 68) (Operand.const (Value.bool false)), type := 4, pos := "more.go:69", after := #[{ on := 12, ground := Ground.data }, { on := 19, ground := Ground.data }], guard := none }) (v := ?_) rfl (by kernel_rfl) (by kernel_rfl) (by kernel_rfl) (fun _ _ _ h => h) (Or.inl ⟨by rfl, ?hyA20⟩) (by assumption) ?_
  case hyA20 => (intro w hSw; (try dsimp only at hSw); go_simp; try with_reducible rfl)
  (try simp only [Act.put, List.setIfInBounds_toArray, List.set_cons_zero, List.set_cons_succ])
  refine wpAnyH_take (i := 21) (oi := { dst := some 70, op := Op.move (Operand.tmp 69), type := 4, pos := "more.go:69", after := #[{ on := 20, ground := Ground.data }, { on := 19, ground := Ground.chain }], guard := none }) (v := ?_) rfl (by kernel_rfl) (by kernel_rfl) (by kernel_rfl) (fun _ _ _ h => h) (Or.inl ⟨by rfl, ?hyA21⟩) (by assumption) ?_
  case hyA21 => (intro w hSw; (try dsimp only at hSw); go_simp; try with_reducible rfl)
  (try simp only [Act.put, List.setIfInBounds_toArray, List.set_cons_zero, List.set_cons_succ])
  refine wpAnyH_take (i := 22) (oi := { dst := some 71, op := Op.move (Operand.tmp 11), type := 27, pos := "more.go:69", after := #[{ on := 21, ground := Ground.guard }], guard := some (21, true) }) (v := ?_) rfl (by kernel_rfl) (by kernel_rfl) (by kernel_rfl) (fun _ _ _ h => h) (Or.inl ⟨by rfl, ?hyA22⟩) (by assumption) ?_
  case hyA22 => (intro w hSw; (try dsimp only at hSw); go_simp; try with_reducible rfl)
  (try simp only [Act.put, List.setIfInBounds_toArray, List.set_cons_zero, List.set_cons_succ])
  refine wpAnyH_take (i := 23) (oi := { dst := some 72, op := Op.binOp BinOp.eql 3 (Operand.tmp 71) (Operand.const (Value.int IntKind.i64 0)) 3, type := 4, pos := "more.go:69", after := #[{ on := 22, ground := Ground.data }, { on := 21, ground := Ground.guard }], guard := some (21, true) }) (v := ?_) rfl (by kernel_rfl) (by kernel_rfl) (by kernel_rfl) (fun _ _ _ h => h) (Or.inl ⟨by rfl, ?hyA23⟩) (by assumption) ?_
  case hyA23 => (intro w hSw; (try dsimp only at hSw); go_simp; try with_reducible rfl)
  (try simp only [Act.put, List.setIfInBounds_toArray, List.set_cons_zero, List.set_cons_succ])
  refine wpAnyH_take (i := 24) (oi := { dst := some 73, op := Op.move (Operand.tmp 12), type := 4, pos := "more.go:69", after := #[{ on := 21, ground := Ground.guard }], guard := some (21, true) }) (v := ?_) rfl (by kernel_rfl) (by kernel_rfl) (by kernel_rfl) (fun _ _ _ h => h) (Or.inl ⟨by rfl, ?hyA24⟩) (by assumption) ?_
  case hyA24 => (intro w hSw; (try dsimp only at hSw); go_simp; try with_reducible rfl)
  (try simp only [Act.put, List.setIfInBounds_toArray, List.set_cons_zero, List.set_cons_succ])
  refine wpAnyH_take (i := 25) (oi := { dst := some 74, op := Op.binOp BinOp.eql 4 (Operand.tmp 72) (Operand.tmp 73) 4, type := 4, pos := "more.go:69", after := #[{ on := 23, ground := Ground.data }, { on := 24, ground := Ground.data }, { on := 21, ground := Ground.guard }], guard := some (21, true) }) (v := ?_) rfl (by kernel_rfl) (by kernel_rfl) (by kernel_rfl) (fun _ _ _ h => h) (Or.inl ⟨by rfl, ?hyA25⟩) (by assumption) ?_
  case hyA25 => (intro w hSw; (try dsimp only at hSw); go_simp; try with_reducible rfl)
  (try simp only [Act.put, List.setIfInBounds_toArray, List.set_cons_zero, List.set_cons_succ])
  refine wpAnyH_take (i := 26) (oi := { dst := some 75, op := Op.pick (Operand.tmp 70) (Operand.tmp 74) (Operand.const (Value.bool false)), type := 4, pos := "more.go:69", after := #[{ on := 21, ground := Ground.data }, { on := 25, ground := Ground.data }], guard := none }) (v := ?_) rfl (by kernel_rfl) (by kernel_rfl) (by kernel_rfl) (fun _ _ _ h => h) (Or.inl ⟨by rfl, ?hyA26⟩) (by assumption) ?_
  case hyA26 => (intro w hSw; (try dsimp only at hSw); go_simp; try with_reducible rfl)
  (try simp only [Act.put, List.setIfInBounds_toArray, List.set_cons_zero, List.set_cons_succ])
  refine wpAnyH_take (i := 27) (oi := { dst := some 76, op := Op.move (Operand.tmp 75), type := 4, pos := "more.go:69", after := #[{ on := 26, ground := Ground.data }, { on := 21, ground := Ground.chain }], guard := none }) (v := ?_) rfl (by kernel_rfl) (by kernel_rfl) (by kernel_rfl) (fun _ _ _ h => h) (Or.inl ⟨by rfl, ?hyA27⟩) (by assumption) ?_
  case hyA27 => (intro w hSw; (try dsimp only at hSw); go_simp; try with_reducible rfl)
  (try simp only [Act.put, List.setIfInBounds_toArray, List.set_cons_zero, List.set_cons_succ])
  refine wpAnyH_take (i := 28) (oi := { dst := some 77, op := Op.move (Operand.tmp 12), type := 4, pos := "more.go:69", after := #[{ on := 27, ground := Ground.guard }], guard := some (27, true) }) (v := ?_) rfl (by kernel_rfl) (by kernel_rfl) (by kernel_rfl) (fun _ _ _ h => h) (Or.inl ⟨by rfl, ?hyA28⟩) (by assumption) ?_
  case hyA28 => (intro w hSw; (try dsimp only at hSw); go_simp; try with_reducible rfl)
  (try simp only [Act.put, List.setIfInBounds_toArray, List.set_cons_zero, List.set_cons_succ])
  refine wpAnyH_take (i := 29) (oi := { dst := some 78, op := Op.unOp UnOp.not 4 (Operand.tmp 77), type := 4, pos := "more.go:69", after := #[{ on := 28, ground := Ground.data }, { on := 27, ground := Ground.guard }], guard := some (27, true) }) (v := ?_) rfl (by kernel_rfl) (by kernel_rfl) (by kernel_rfl) (fun _ _ _ h => h) (Or.inl ⟨by rfl, ?hyA29⟩) (by assumption) ?_
  case hyA29 => (intro w hSw; (try dsimp only at hSw); go_simp; try with_reducible rfl)
  (try simp only [Act.put, List.setIfInBounds_toArray, List.set_cons_zero, List.set_cons_succ])
  refine wpAnyH_take (i := 30) (oi := { dst := some 79, op := Op.move (Operand.tmp 78), type := 4, pos := "more.go:69", after := #[{ on := 29, ground := Ground.data }, { on := 27, ground := Ground.chain }, { on := 27, ground := Ground.guard }], guard := some (27, true) }) (v := ?_) rfl (by kernel_rfl) (by kernel_rfl) (by kernel_rfl) (fun _ _ _ h => h) (Or.inl ⟨by rfl, ?hyA30⟩) (by assumption) ?_
  case hyA30 => (intro w hSw; (try dsimp only at hSw); go_simp; try with_reducible rfl)
  (try simp only [Act.put, List.setIfInBounds_toArray, List.set_cons_zero, List.set_cons_succ])
  refine wpAnyH_take (i := 31) (oi := { dst := some 80, op := Op.load 26 (Operand.tmp 10), type := 26, pos := "more.go:69", after := #[{ on := 30, ground := Ground.guard }], guard := some (30, false) }) (v := ?_) rfl (by kernel_rfl) (by kernel_rfl) (by kernel_rfl) (fun _ _ _ h => h) (Or.inl ⟨by rfl, ?hyA31⟩) (by assumption) ?_
  case hyA31 => (intro w hSw; (try dsimp only at hSw); go_simp; try with_reducible rfl)
  (try simp only [Act.put, List.setIfInBounds_toArray, List.set_cons_zero, List.set_cons_succ])
  refine wpAnyH_take (i := 32) (oi := { dst := some 81, op := Op.load 26 (Operand.tmp 6), type := 26, pos := "more.go:69", after := #[{ on := 30, ground := Ground.guard }], guard := some (30, false) }) (v := ?_) rfl (by kernel_rfl) (by kernel_rfl) (by kernel_rfl) (fun _ _ _ h => h) (Or.inl ⟨by rfl, ?hyA32⟩) (by assumption) ?_
  case hyA32 => (intro w hSw; (try dsimp only at hSw); go_simp; try with_reducible rfl)
  (try simp only [Act.put, List.setIfInBounds_toArray, List.set_cons_zero, List.set_cons_succ])
  refine wpAnyH_ready (rs := [33]) (by kernel_rfl) (by simp) ?_
  refine AllReadyH.cons (o := { dst := some 82, op := Op.call { callee := Callee.value (Operand.func 15), args := #[Operand.tmp 80, Operand.tmp 81], argTypes := #[26, 26] }, type := 4, pos := "more.go:69", after := #[{ on := 31, ground := Ground.data }, { on := 32, ground := Ground.data }, { on := 30, ground := Ground.chain }, { on := 30, ground := Ground.guard }], guard := some (30, false) }) rfl (fun K hK => ?_) AllReadyH.nil
  go_simp
  with_reducible refine (HRf.out _ _ _ _).mono ?_
  rintro e w' ⟨rfl, hb⟩
  refine hK.out _ _ ?_ (fun hHeldAxxxxxxx => ?_)
  · obtain ⟨q0, q1, q2, q3, q4, q5, q6, q7, q8, q9, q10, q11, q12, q13, q14, q15, q16⟩ := hHeldAxxxxxx
    exact ⟨keep_cell hb q0, keep_cell hb q1, keep_cell hb q2, keep_cell hb q3, keep_cell hb q4, keep_cell hb q5, keep_cell hb q6, keep_cell hb q7, keep_cell hb q8, keep_cell hb q9, keep_cell hb q10, keep_cell hb q11, keep_cell hb q12, keep_cell hb q13, keep_cell hb q14, below_next q15 hb q16, le_next q16 hb⟩
  clear hK K hb hHeldAxxxxxx
  (try simp only [Act.put, List.setIfInBounds_toArray, List.set_cons_zero, List.set_cons_succ])
  refine wpAnyH_take (i := 34) (oi := { dst := some 83, op := Op.pick (Operand.tmp 79) (Operand.const (Value.bool true)) (Operand.tmp 82), type := 4, pos := "more.go:69", after := #[{ on := 30, ground := Ground.data }, { on := 33, ground := Ground.data }, { on := 27, ground := Ground.guard }], guard := some (27, true) }) (v := ?_) rfl (by kernel_rfl) (by kernel_rfl) (by kernel_rfl) (fun _ _ _ h => h) (Or.inl ⟨by rfl, ?hyA34⟩) (by assumption) ?_
  case hyA34 => (intro w hSw; (try dsimp only at hSw); go_simp; try with_reducible rfl)
  (try simp only [Act.put, List.setIfInBounds_toArray, List.set_cons_zero, List.set_cons_succ])
  refine wpAnyH_take (i := 35) (oi := { dst := some 84, op := Op.pick (Operand.tmp 76) (Operand.tmp 83) (Operand.const (Value.bool false)), type := 4, pos := "more.go:69", after := #[{ on := 27, ground := Ground.data }, { on := 34, ground := Ground.data }], guard := none }) (v := ?_) rfl (by kernel_rfl) (by kernel_rfl) (by kernel_rfl) (fun _ _ _ h => h) (Or.inl ⟨by rfl, ?hyA35⟩) (by assumption) ?_
  case hyA35 => (intro w hSw; (try dsimp only at hSw); go_simp; try with_reducible rfl)
  (try simp only [Act.put, List.setIfInBounds_toArray, List.set_cons_zero, List.set_cons_succ])
  refine wpAnyH_take (i := 36) (oi := { dst := some 4, op := Op.assign (Operand.tmp 84), type := 4, pos := "more.go:69", after := #[{ on := 35, ground := Ground.data }, { on := 33, ground := Ground.chain }, { on := 0, ground := Ground.phase }, { on := 1, ground := Ground.phase }, { on := 2, ground := Ground.phase }, { on := 3, ground := Ground.phase }, { on := 4, ground := Ground.phase }, { on := 5, ground := Ground.phase }, { on := 6, ground := Ground.phase }, { on := 7, ground := Ground.phase }, { on := 8, ground := Ground.phase }, { on := 9, ground := Ground.phase }, { on := 10, ground := Ground.phase }, { on := 11, ground := Ground.phase }, { on := 12, ground := Ground.phase }, { on := 13, ground := Ground.phase }, { on := 14, ground := Ground.phase }, { on := 15, ground := Ground.phase }, { on := 16, ground := Ground.phase }, { on := 17, ground := Ground.phase }, { on := 18, ground := Ground.phase }, { on := 19, ground := Ground.phase }, { on := 20, ground := Ground.phase }, { on := 21, ground := Ground.phase }, { on := 22, ground := Ground.phase }, { on := 23, ground := Ground.phase }, { on := 24, ground := Ground.phase }, { on := 25, ground := Ground.phase }, { on := 26, ground := Ground.phase }, { on := 27, ground := Ground.phase }, { on := 28, ground := Ground.phase }, { on := 29, ground := Ground.phase }, { on := 30, ground := Ground.phase }, { on := 31, ground := Ground.phase }, { on := 32, ground := Ground.phase }, { on := 33, ground := Ground.phase }, { on := 34, ground := Ground.phase }, { on := 35, ground := Ground.phase }], guard := none }) (v := ?_) rfl (by kernel_rfl) (by kernel_rfl) (by kernel_rfl) (fun _ _ _ h => h) (Or.inl ⟨by rfl, ?hyA36⟩) (by assumption) ?_
  case hyA36 => (intro w hSw; (try dsimp only at hSw); go_simp; try with_reducible rfl)
  (try simp only [Act.put, List.setIfInBounds_toArray, List.set_cons_zero, List.set_cons_succ])
  refine wpAnyH_done (by kernel_rfl) ?_ _
  go_wp2
  go_ret
  go_split_ands
  exact ⟨rfl, by assumption⟩
set_option maxHeartbeats 8000000 in
set_option maxRecDepth 100000 in
theorem sames_other (k i k' i' : Int) (s s' : ByteArray) (q : Bool) (w : World) (h : rightV ⟨k, i, s⟩) (h' : rightV ⟨k', i', s'⟩) (hq : sameB k i s k' i' s' = q) (c1 : (k == 1) = false ∨ ((k == 1) = true ∧ (k' == 1) = false)) (hq3 : applyR (code ⟨#[61]⟩) [⟨k, i, s⟩, ⟨k', i', s'⟩] = (⟨0, 0, ⟨#[]⟩⟩, 8)) (ht : TabW w) :
    Calls Tryd.prog 8 #[.agg #[.int .i64 (k), .int .i64 (i), .string (s)], .agg #[.int .i64 (k'), .int .i64 (i'), .string (s')]] w fun e w' => e = .returned (.bool true) ∧ Below w.heap.size w w' := by
  obtain ⟨W0, HW0⟩ : ∃ W0, W0 = (w.alloc (.cells #[.int .i64 k, .int .i64 i, .string s] 26)).alloc (.cells #[.int .i64 k', .int .i64 i', .string s'] 26) := ⟨_, rfl⟩
  have HT : Hid (TabW W0) := by rw [HW0]; exact tab_alloc (tab_alloc ht)
  obtain ⟨n1, Hn1⟩ : ∃ n1, w.heap.size = n1 := ⟨_, rfl⟩
  have a0 : W0.cell? ⟨n1, 0, none⟩ = some (.int .i64 k) := by rw [HW0, ← Hn1]; exact alloc_cell (box0 rfl)
  have a1 : W0.cell? ⟨n1, 1, none⟩ = some (.int .i64 i) := by rw [HW0, ← Hn1]; exact alloc_cell (box0 rfl)
  have a2 : W0.cell? ⟨n1, 2, none⟩ = some (.string s) := by rw [HW0, ← Hn1]; exact alloc_cell (box0 rfl)
  have b0 : W0.cell? ⟨n1 + 1, 0, none⟩ = some (.int .i64 k') := by rw [HW0, ← Hn1]; exact box1 rfl
  have b1 : W0.cell? ⟨n1 + 1, 1, none⟩ = some (.int .i64 i') := by rw [HW0, ← Hn1]; exact box1 rfl
  have b2 : W0.cell? ⟨n1 + 1, 2, none⟩ = some (.string s') := by rw [HW0, ← Hn1]; exact box1 rfl
  have HWb : Hid (Below w.heap.size w W0) := by rw [HW0]; exact next_trans' (alloc_below' _ _) (alloc_below' _ _)
  have HA : Hid (∀ w : World, Calls Tryd.prog 10 #[.agg #[.int .i64 (k), .int .i64 (i), .string (s)]] w fun e w' => e = .returned (.bool true) ∧ Below w.heap.size w w') := by
    intro w; rw [← h.1]; exact brright_any k i s w (by have := right_bd h; simp at this; omega)
  have HC : Hid (∀ w : World, Calls Tryd.prog 10 #[.agg #[.int .i64 (k'), .int .i64 (i'), .string (s')]] w fun e w' => e = .returned (.bool true) ∧ Below w.heap.size w w') := by
    intro w; rw [← h'.1]; exact brright_any k' i' s' w (by have := right_bd h'; simp at this; omega)
  have HSm : Hid (∀ w : World, Calls Tryd.prog 15 #[.agg #[.int .i64 (k), .int .i64 (i), .string (s)], .agg #[.int .i64 (k'), .int .i64 (i'), .string (s')]] w fun e w' => e = .returned (.bool q) ∧ Below w.heap.size w w') := by
    intro w; rw [← hq]; exact rsame_any k i k' i' s s' w
  have HRf : Hid (∀ (k i : Int) (s : ByteArray) (w : World), Calls Tryd.prog 15 #[.agg #[.int .i64 (k), .int .i64 (i), .string (s)], .agg #[.int .i64 (k), .int .i64 (i), .string (s)]] w fun e w' => e = .returned (.bool true) ∧ Below w.heap.size w w') := by
    intro k i s w; rw [← sameB_refl k i s]; exact rsame_any k i k i s s w
  have HR2 : Hid (∀ v ∈ [(⟨k, i, s⟩ : Val), ⟨k', i', s'⟩], rightV v) := by
    intro v hv
    simp at hv
    rcases hv with rfl | rfl
    · exact h
    · exact h'
  have HQ1 : Hid (applyR (code ⟨#[101, 113]⟩) [⟨k, i, s⟩, ⟨k', i', s'⟩] = (⟨2, 0, boolS q⟩, 0)) := by rw [Hid, sam_eq]; show ((⟨2, 0, boolS (sameB k i s k' i' s')⟩ : Val), (0 : Int)) = _; rw [hq]
  have HQ2 : Hid (applyR (code ⟨#[110, 101, 113]⟩) [⟨k, i, s⟩, ⟨k', i', s'⟩] = (⟨2, 0, boolS (!q)⟩, 0)) := by rw [Hid, sam_neq]; show ((⟨2, 0, boolS (!sameB k i s k' i' s')⟩ : Val), (0 : Int)) = _; rw [hq]
  have HQ3 : Hid (applyR (code ⟨#[61]⟩) [⟨k, i, s⟩, ⟨k', i', s'⟩] = (⟨0, 0, ⟨#[]⟩⟩, 8)) := hq3
  clear ht h h' hq hq3
  go_enter Tryd.func8, Tryd.ntmps8
  go_wp2_with fail
  rw [← HW0]
  refine (known6 _ HT.out).mono ?_
  rintro e w1 ⟨rfl, hb1⟩
  have c0 := keep_cell hb1 a0
  have c1' := keep_cell hb1 a1
  have c2' := keep_cell hb1 a2
  have d0 := keep_cell hb1 b0
  have d1 := keep_cell hb1 b1
  have d2 := keep_cell hb1 b2
  have B1 : Hid (Below w.heap.size w w1) := next_trans' HWb.out hb1
  have T1 : Hid (TabW w1) := tab_next HT.out hb1
  clear hb1 a0 a1 a2 b0 b1 b2 HW0 HWb HT
  go_wp2_with fail
  refine (HA.out _).mono ?_
  rintro e w2 ⟨rfl, hb2⟩
  have e0 := keep_cell hb2 c0
  have e1 := keep_cell hb2 c1'
  have e2 := keep_cell hb2 c2'
  have f0 := keep_cell hb2 d0
  have f1 := keep_cell hb2 d1
  have f2 := keep_cell hb2 d2
  have B2 : Hid (Below w.heap.size w w2) := next_trans' B1.out hb2
  have T2 : Hid (TabW w2) := tab_next T1.out hb2
  clear hb2 c0 c1' c2' d0 d1 d2 B1 T1
  go_wp2_with fail
  refine (HC.out _).mono ?_
  rintro e w3 ⟨rfl, hb3⟩
  have c0 := keep_cell hb3 e0
  have c1' := keep_cell hb3 e1
  have c2' := keep_cell hb3 e2
  have d0 := keep_cell hb3 f0
  have d1 := keep_cell hb3 f1
  have d2 := keep_cell hb3 f2
  have B3 : Hid (Below w.heap.size w w3) := next_trans' B2.out hb3
  have T3 : Hid (TabW w3) := tab_next T2.out hb3
  clear hb3 e0 e1 e2 f0 f1 f2 B2 T2
  obtain ⟨n3, Hn3⟩ : ∃ n3, w3.heap.size = n3 := ⟨_, rfl⟩
  have HL : Hid (IsVals (w3.alloc (.cells #[.int .i64 k, .int .i64 i, .string s, .int .i64 k', .int .i64 i', .string s'] 26)) (some ⟨n3, 0, none⟩) [⟨k, i, s⟩, ⟨k', i', s'⟩]) := lit_vals w3 n3 [⟨k, i, s⟩, ⟨k', i', s'⟩] Hn3.symm
  have T4 : Hid (TabW (w3.alloc (.cells #[.int .i64 k, .int .i64 i, .string s, .int .i64 k', .int .i64 i', .string s'] 26))) := tab_alloc T3.out
  go_wp2_with fail
  refine (apply_any ⟨#[101, 113]⟩ 2 0 0 (boolS q) _ 2 2 _ _ rfl (by decide) HL.out HR2.out T4.out HQ1.out).mono ?_
  rintro e w4 ⟨rfl, hb4⟩
  have e0 := keep_cell hb4 (alloc_cell c0)
  have e1 := keep_cell hb4 (alloc_cell c1')
  have e2 := keep_cell hb4 (alloc_cell c2')
  have f0 := keep_cell hb4 (alloc_cell d0)
  have f1 := keep_cell hb4 (alloc_cell d1)
  have f2 := keep_cell hb4 (alloc_cell d2)
  have B4 : Hid (Below w.heap.size w w4) := next_trans' (next_trans' B3.out (alloc_below' _ _)) hb4
  obtain ⟨x1, Hx1⟩ : ∃ x1, w4.heap.size = x1 := ⟨_, rfl⟩
  have g0 : Hid ((w4.alloc (.cells #[.int .i64 2, .int .i64 0, .string (boolS q)] 26)).cell? ⟨x1, 0, none⟩ = some (.int .i64 2)) := box_cell Hx1.symm rfl
  have g1 : Hid ((w4.alloc (.cells #[.int .i64 2, .int .i64 0, .string (boolS q)] 26)).cell? ⟨x1, 1, none⟩ = some (.int .i64 0)) := box_cell Hx1.symm rfl
  have g2 : Hid ((w4.alloc (.cells #[.int .i64 2, .int .i64 0, .string (boolS q)] 26)).cell? ⟨x1, 2, none⟩ = some (.string (boolS q))) := box_cell Hx1.symm rfl
  have HL5 : Hid (IsVals (w4.alloc (.cells #[.int .i64 2, .int .i64 0, .string (boolS q)] 26)) (some ⟨n3, 0, none⟩) [⟨k, i, s⟩, ⟨k', i', s'⟩]) := (HL.out.next hb4).next (alloc_below' _ _)
  have T5 : Hid (TabW (w4.alloc (.cells #[.int .i64 2, .int .i64 0, .string (boolS q)] 26))) := tab_alloc (tab_next T4.out hb4)
  clear hb4 c0 c1' c2' d0 d1 d2 B3 T3 T4 HL Hn3 HQ1
  go_wp2_with fail
  refine (apply_any ⟨#[110, 101, 113]⟩ 2 0 0 (boolS (!q)) _ 2 2 _ _ rfl (by decide) HL5.out HR2.out T5.out HQ2.out).mono ?_
  rintro e w5 ⟨rfl, hb5⟩
  have c0 := keep_cell hb5 (alloc_cell e0)
  have c1' := keep_cell hb5 (alloc_cell e1)
  have c2' := keep_cell hb5 (alloc_cell e2)
  have d0 := keep_cell hb5 (alloc_cell f0)
  have d1 := keep_cell hb5 (alloc_cell f1)
  have d2 := keep_cell hb5 (alloc_cell f2)
  have p0 := keep_cell hb5 g0.out
  have p1 := keep_cell hb5 g1.out
  have p2 := keep_cell hb5 g2.out
  have B5 : Hid (Below w.heap.size w w5) := next_trans' (next_trans' B4.out (alloc_below' _ _)) hb5
  obtain ⟨x2, Hx2⟩ : ∃ x2, w5.heap.size = x2 := ⟨_, rfl⟩
  have h0 : Hid ((w5.alloc (.cells #[.int .i64 2, .int .i64 0, .string (boolS (!q))] 26)).cell? ⟨x2, 0, none⟩ = some (.int .i64 2)) := box_cell Hx2.symm rfl
  have h1 : Hid ((w5.alloc (.cells #[.int .i64 2, .int .i64 0, .string (boolS (!q))] 26)).cell? ⟨x2, 1, none⟩ = some (.int .i64 0)) := box_cell Hx2.symm rfl
  have h2 : Hid ((w5.alloc (.cells #[.int .i64 2, .int .i64 0, .string (boolS (!q))] 26)).cell? ⟨x2, 2, none⟩ = some (.string (boolS (!q)))) := box_cell Hx2.symm rfl
  have HL6 : Hid (IsVals (w5.alloc (.cells #[.int .i64 2, .int .i64 0, .string (boolS (!q))] 26)) (some ⟨n3, 0, none⟩) [⟨k, i, s⟩, ⟨k', i', s'⟩]) := (HL5.out.next hb5).next (alloc_below' _ _)
  have T6 : Hid (TabW (w5.alloc (.cells #[.int .i64 2, .int .i64 0, .string (boolS (!q))] 26))) := tab_alloc (tab_next T5.out hb5)
  clear hb5 e0 e1 e2 f0 f1 f2 g0 g1 g2 B4 T5 HL5 Hx1 HQ2
  go_wp2_with fail
  refine (apply_any ⟨#[61]⟩ 0 0 8 ⟨#[]⟩ _ 2 2 _ _ rfl (by decide) HL6.out HR2.out T6.out HQ3.out).mono ?_
  rintro e w6 ⟨rfl, hb6⟩
  obtain ⟨x3, Hx3⟩ : ∃ x3, w6.heap.size = x3 := ⟨_, rfl⟩
  have e0 := keep_cell hb6 (alloc_cell c0)
  have e3 := keep_cell hb6 (alloc_cell d0)
  have k1 : n1 < x3 := by rw [← Hx3]; exact World.block_lt_of_cell? _ _ e0
  have k2 : n1 + 1 < x3 := by rw [← Hx3]; exact World.block_lt_of_cell? _ _ e3
  obtain ⟨W, HW⟩ : ∃ W, W = w6.alloc (.cells #[.int .i64 0, .int .i64 0, .string ⟨#[]⟩] 26) := ⟨_, rfl⟩
  have ga0 : W.drew.cell? ⟨n1, 0, none⟩ = some (.int .i64 k) := by rw [HW]; exact alloc_cell e0
  have ga1 : W.drew.cell? ⟨n1, 1, none⟩ = some (.int .i64 i) := by rw [HW]; exact alloc_cell (keep_cell hb6 (alloc_cell c1'))
  have ga2 : W.drew.cell? ⟨n1, 2, none⟩ = some (.string s) := by rw [HW]; exact alloc_cell (keep_cell hb6 (alloc_cell c2'))
  have gb0 : W.drew.cell? ⟨n1 + 1, 0, none⟩ = some (.int .i64 k') := by rw [HW]; exact alloc_cell e3
  have gb1 : W.drew.cell? ⟨n1 + 1, 1, none⟩ = some (.int .i64 i') := by rw [HW]; exact alloc_cell (keep_cell hb6 (alloc_cell d1))
  have gb2 : W.drew.cell? ⟨n1 + 1, 2, none⟩ = some (.string s') := by rw [HW]; exact alloc_cell (keep_cell hb6 (alloc_cell d2))
  have gx0 : W.drew.cell? ⟨x1, 0, none⟩ = some (.int .i64 2) := by rw [HW]; exact alloc_cell (keep_cell hb6 (alloc_cell p0))
  have gx1 : W.drew.cell? ⟨x1, 1, none⟩ = some (.int .i64 0) := by rw [HW]; exact alloc_cell (keep_cell hb6 (alloc_cell p1))
  have gx2 : W.drew.cell? ⟨x1, 2, none⟩ = some (.string (boolS q)) := by rw [HW]; exact alloc_cell (keep_cell hb6 (alloc_cell p2))
  have gy0 : W.drew.cell? ⟨x2, 0, none⟩ = some (.int .i64 2) := by rw [HW]; exact alloc_cell (keep_cell hb6 h0.out)
  have gy1 : W.drew.cell? ⟨x2, 1, none⟩ = some (.int .i64 0) := by rw [HW]; exact alloc_cell (keep_cell hb6 h1.out)
  have gy2 : W.drew.cell? ⟨x2, 2, none⟩ = some (.string (boolS (!q))) := by rw [HW]; exact alloc_cell (keep_cell hb6 h2.out)
  have gz0 : W.drew.cell? ⟨x3, 0, none⟩ = some (.int .i64 0) := by rw [HW]; exact box_cell Hx3.symm rfl
  have gz1 : W.drew.cell? ⟨x3, 1, none⟩ = some (.int .i64 0) := by rw [HW]; exact box_cell Hx3.symm rfl
  have gz2 : W.drew.cell? ⟨x3, 2, none⟩ = some (.string ⟨#[]⟩) := by rw [HW]; exact box_cell Hx3.symm rfl
  have s0 : Below w.heap.size w W.drew := by rw [HW]; exact (next_trans' (next_trans' (next_trans' B5.out (alloc_below' _ _)) hb6) (alloc_below' _ _)).drew
  have s1 : w.heap.size ≤ W.drew.heap.size := s0.size
  clear hb6 c1' c2' d1 d2 p0 p1 p2 h0 h1 h2 B5 T6 HL6 HQ3 HR2 HA HC c0 d0
  rcases c1 with c1 | ⟨c1, c2⟩
  all_goals
    go_wp2_with fail
    rw [← HW]
    clear HW Hx2 Hx3
    have hwrap : IntKind.i64.wrap 0 = 0 := by decide
    refine wp_region_held_drew (S := (fun w' => w'.cell? ⟨n1, 0, none⟩ = some (.int .i64 k) ∧ w'.cell? ⟨n1, 1, none⟩ = some (.int .i64 i) ∧ w'.cell? ⟨n1, 2, none⟩ = some (.string s) ∧ w'.cell? ⟨n1 + 1, 0, none⟩ = some (.int .i64 k') ∧ w'.cell? ⟨n1 + 1, 1, none⟩ = some (.int .i64 i') ∧ w'.cell? ⟨n1 + 1, 2, none⟩ = some (.string s') ∧ w'.cell? ⟨x1, 0, none⟩ = some (.int .i64 2) ∧ w'.cell? ⟨x1, 1, none⟩ = some (.int .i64 0) ∧ w'.cell? ⟨x1, 2, none⟩ = some (.string (boolS q)) ∧ w'.cell? ⟨x2, 0, none⟩ = some (.int .i64 2) ∧ w'.cell? ⟨x2, 1, none⟩ = some (.int .i64 0) ∧ w'.cell? ⟨x2, 2, none⟩ = some (.string (boolS (!q))) ∧ w'.cell? ⟨x3, 0, none⟩ = some (.int .i64 0) ∧ w'.cell? ⟨x3, 1, none⟩ = some (.int .i64 0) ∧ w'.cell? ⟨x3, 2, none⟩ = some (.string ⟨#[]⟩) ∧ Below w.heap.size w w' ∧ w.heap.size ≤ w'.heap.size)) (by kernel_rfl) ?_ (fun hHeldB => ?_)
    · exact ⟨ga0, ga1, ga2, gb0, gb1, gb2, gx0, gx1, gx2, gy0, gy1, gy2, gz0, gz1, gz2, s0, s1⟩
    refine wpAnyH_take (i := 0) (oi := { dst := some 49, op := Op.move (Operand.tmp 7), type := 27, pos := "more.go:69", after := #[], guard := none }) (v := ?_) rfl (by kernel_rfl) (by kernel_rfl) (by kernel_rfl) (fun _ _ _ h => h) (Or.inl ⟨by rfl, ?hyB0⟩) (by assumption) ?_
    case hyB0 => (intro w hSw; (try dsimp only at hSw); go_simp; try with_reducible rfl)
    (try simp only [Act.put, List.setIfInBounds_toArray, List.set_cons_zero, List.set_cons_succ])
    refine wpAnyH_take (i := 1) (oi := { dst := some 50, op := Op.move (Operand.tmp 9), type := 27, pos := "more.go:69", after := #[], guard := none }) (v := ?_) rfl (by kernel_rfl) (by kernel_rfl) (by kernel_rfl) (fun _ _ _ h => h) (Or.inl ⟨by rfl, ?hyB1⟩) (by assumption) ?_
    case hyB1 => (intro w hSw; (try dsimp only at hSw); go_simp; try with_reducible rfl)
    (try simp only [Act.put, List.setIfInBounds_toArray, List.set_cons_zero, List.set_cons_succ])
    refine wpAnyH_take (i := 2) (oi := { dst := some 51, op := Op.binOp BinOp.add 3 (Operand.tmp 49) (Operand.tmp 50) 3, type := 3, pos := "more.go:69", after := #[{ on := 0, ground := Ground.data }, { on := 1, ground := Ground.data }], guard := none }) (v := ?_) rfl (by kernel_rfl) (by kernel_rfl) (by kernel_rfl) (fun _ _ _ h => h) (Or.inl ⟨by rfl, ?hyB2⟩) (by assumption) ?_
    case hyB2 => (intro w hSw; (try dsimp only at hSw); go_simp; try with_reducible rfl)
    (try simp only [Act.put, List.setIfInBounds_toArray, List.set_cons_zero, List.set_cons_succ])
    refine wpAnyH_take (i := 3) (oi := { dst := some 52, op := Op.binOp BinOp.eql 3 (Operand.tmp 51) (Operand.const (Value.int IntKind.i64 0)) 3, type := 4, pos := "more.go:69", after := #[{ on := 2, ground := Ground.data }], guard := none }) (v := ?_) rfl (by kernel_rfl) (by kernel_rfl) (by kernel_rfl) (fun _ _ _ h => h) (Or.inl ⟨by rfl, ?hyB3⟩) (by assumption) ?_
    case hyB3 => (intro w hSw; (try dsimp only at hSw); go_simp; try with_reducible rfl)
    (try simp only [Act.put, List.setIfInBounds_toArray, List.set_cons_zero, List.set_cons_succ])
    refine wpAnyH_take (i := 4) (oi := { dst := some 53, op := Op.move (Operand.tmp 52), type := 4, pos := "more.go:69", after := #[{ on := 3, ground := Ground.data }], guard := none }) (v := ?_) rfl (by kernel_rfl) (by kernel_rfl) (by kernel_rfl) (fun _ _ _ h => h) (Or.inl ⟨by rfl, ?hyB4⟩) (by assumption) ?_
    case hyB4 => (intro w hSw; (try dsimp only at hSw); go_simp; try with_reducible rfl)
    (try simp only [Act.put, List.setIfInBounds_toArray, List.set_cons_zero, List.set_cons_succ])
    refine wpAnyH_take (i := 5) (oi := { dst := some 54, op := Op.load 26 (Operand.tmp 6), type := 26, pos := "more.go:69", after := #[{ on := 4, ground := Ground.guard }], guard := some (4, true) }) (v := ?_) rfl (by kernel_rfl) (by kernel_rfl) (by kernel_rfl) (fun _ _ _ h => h) (Or.inl ⟨by rfl, ?hyB5⟩) (by assumption) ?_
    case hyB5 => (intro w hSw; (try dsimp only at hSw); go_simp; try with_reducible rfl)
    (try simp only [Act.put, List.setIfInBounds_toArray, List.set_cons_zero, List.set_cons_succ])
    refine wpAnyH_take (i := 6) (oi := { dst := some 55, op := Op.load 26 (Operand.tmp 2), type := 26, pos := "more.go:69", after := #[{ on := 4, ground := Ground.guard }], guard := some (4, true) }) (v := ?_) rfl (by kernel_rfl) (by kernel_rfl) (by kernel_rfl) (fun _ _ _ h => h) (Or.inl ⟨by rfl, ?hyB6⟩) (by assumption) ?_
    case hyB6 => (intro w hSw; (try dsimp only at hSw); go_simp; try with_reducible rfl)
    (try simp only [Act.put, List.setIfInBounds_toArray, List.set_cons_zero, List.set_cons_succ])
    refine wpAnyH_take (i := 7) (oi := { dst := some 56, op := Op.load 26 (Operand.tmp 3), type := 26, pos := "more.go:69", after := #[{ on := 4, ground := Ground.guard }], guard := some (4, true) }) (v := ?_) rfl (by kernel_rfl) (by kernel_rfl) (by kernel_rfl) (fun _ _ _ h => h) (Or.inl ⟨by rfl, ?hyB7⟩) (by assumption) ?_
    case hyB7 => (intro w hSw; (try dsimp only at hSw); go_simp; try with_reducible rfl)
    (try simp only [Act.put, List.setIfInBounds_toArray, List.set_cons_zero, List.set_cons_succ])
    refine wpAnyH_ready (rs := [8]) (by kernel_rfl) (by simp) ?_
    refine AllReadyH.cons (o := { dst := some 57, op := Op.call { callee := Callee.value (Operand.func 15), args := #[Operand.tmp 55, Operand.tmp 56], argTypes := #[26, 26] }, type := 4, pos := "more.go:69", after := #[{ on := 6, ground := Ground.data }, { on := 7, ground := Ground.data }, { on := 4, ground := Ground.chain }, { on := 4, ground := Ground.guard }], guard := some (4, true) }) rfl (fun K hK => ?_) AllReadyH.nil
    go_simp
    with_reducible refine (HSm.out _).mono ?_
    rintro e w' ⟨rfl, hb⟩
    refine hK.out _ _ ?_ (fun hHeldBx => ?_)
    · obtain ⟨q0, q1, q2, q3, q4, q5, q6, q7, q8, q9, q10, q11, q12, q13, q14, q15, q16⟩ := hHeldB
      exact ⟨keep_cell hb q0, keep_cell hb q1, keep_cell hb q2, keep_cell hb q3, keep_cell hb q4, keep_cell hb q5, keep_cell hb q6, keep_cell hb q7, keep_cell hb q8, keep_cell hb q9, keep_cell hb q10, keep_cell hb q11, keep_cell hb q12, keep_cell hb q13, keep_cell hb q14, below_next q15 hb q16, le_next q16 hb⟩
    clear hK K hb hHeldB
    (try simp only [Act.put, List.setIfInBounds_toArray, List.set_cons_zero, List.set_cons_succ])
    refine wpAnyH_ready (rs := [9]) (by kernel_rfl) (by simp) ?_
    refine AllReadyH.cons (o := { dst := some 58, op := Op.call { callee := Callee.value (Operand.func 21), args := #[Operand.tmp 57], argTypes := #[4] }, type := 26, pos := "more.go:69", after := #[{ on := 8, ground := Ground.data }, { on := 8, ground := Ground.chain }, { on := 4, ground := Ground.guard }], guard := some (4, true) }) rfl (fun K hK => ?_) AllReadyH.nil
    go_simp
    with_reducible refine (rbool_any _ _).mono ?_
    rintro e w' ⟨rfl, hb⟩
    refine hK.out _ _ ?_ (fun hHeldBxx => ?_)
    · obtain ⟨q0, q1, q2, q3, q4, q5, q6, q7, q8, q9, q10, q11, q12, q13, q14, q15, q16⟩ := hHeldBx
      exact ⟨keep_cell hb q0, keep_cell hb q1, keep_cell hb q2, keep_cell hb q3, keep_cell hb q4, keep_cell hb q5, keep_cell hb q6, keep_cell hb q7, keep_cell hb q8, keep_cell hb q9, keep_cell hb q10, keep_cell hb q11, keep_cell hb q12, keep_cell hb q13, keep_cell hb q14, below_next q15 hb q16, le_next q16 hb⟩
    clear hK K hb hHeldBx
    (try simp only [Act.put, List.setIfInBounds_toArray, List.set_cons_zero, List.set_cons_succ])
    refine wpAnyH_ready (rs := [10]) (by kernel_rfl) (by simp) ?_
    refine AllReadyH.cons (o := { dst := some 59, op := Op.call { callee := Callee.value (Operand.func 15), args := #[Operand.tmp 54, Operand.tmp 58], argTypes := #[26, 26] }, type := 4, pos := "more.go:69", after := #[{ on := 5, ground := Ground.data }, { on := 9, ground := Ground.data }, { on := 9, ground := Ground.chain }, { on := 4, ground := Ground.guard }], guard := some (4, true) }) rfl (fun K hK => ?_) AllReadyH.nil
    go_simp
    with_reducible refine (HRf.out _ _ _ _).mono ?_
    rintro e w' ⟨rfl, hb⟩
    refine hK.out _ _ ?_ (fun hHeldBxxx => ?_)
    · obtain ⟨q0, q1, q2, q3, q4, q5, q6, q7, q8, q9, q10, q11, q12, q13, q14, q15, q16⟩ := hHeldBxx
      exact ⟨keep_cell hb q0, keep_cell hb q1, keep_cell hb q2, keep_cell hb q3, keep_cell hb q4, keep_cell hb q5, keep_cell hb q6, keep_cell hb q7, keep_cell hb q8, keep_cell hb q9, keep_cell hb q10, keep_cell hb q11, keep_cell hb q12, keep_cell hb q13, keep_cell hb q14, below_next q15 hb q16, le_next q16 hb⟩
    clear hK K hb hHeldBxx
    (try simp only [Act.put, List.setIfInBounds_toArray, List.set_cons_zero, List.set_cons_succ])
    refine wpAnyH_take (i := 11) (oi := { dst := some 60, op := Op.pick (Operand.tmp 53) (Operand.tmp 59) (Operand.const (Value.bool false)), type := 4, pos := "more.go:69", after := #[{ on := 4, ground := Ground.data }, { on := 10, ground := Ground.data }], guard := none }) (v := ?_) rfl (by kernel_rfl) (by kernel_rfl) (by kernel_rfl) (fun _ _ _ h => h) (Or.inl ⟨by rfl, ?hyB11⟩) (by assumption) ?_
    case hyB11 => (intro w hSw; (try dsimp only at hSw); go_simp; try with_reducible rfl)
    (try simp only [Act.put, List.setIfInBounds_toArray, List.set_cons_zero, List.set_cons_succ])
    refine wpAnyH_take (i := 12) (oi := { dst := some 61, op := Op.move (Operand.tmp 60), type := 4, pos := "more.go:69", after := #[{ on := 11, ground := Ground.data }, { on := 10, ground := Ground.chain }], guard := none }) (v := ?_) rfl (by kernel_rfl) (by kernel_rfl) (by kernel_rfl) (fun _ _ _ h => h) (Or.inl ⟨by rfl, ?hyB12⟩) (by assumption) ?_
    case hyB12 => (intro w hSw; (try dsimp only at hSw); go_simp; try with_reducible rfl)
    (try simp only [Act.put, List.setIfInBounds_toArray, List.set_cons_zero, List.set_cons_succ])
    refine wpAnyH_take (i := 13) (oi := { dst := some 62, op := Op.load 26 (Operand.tmp 8), type := 26, pos := "more.go:69", after := #[{ on := 12, ground := Ground.guard }], guard := some (12, true) }) (v := ?_) rfl (by kernel_rfl) (by kernel_rfl) (by kernel_rfl) (fun _ _ _ h => h) (Or.inl ⟨by rfl, ?hyB13⟩) (by assumption) ?_
    case hyB13 => (intro w hSw; (try dsimp only at hSw); go_simp; try with_reducible rfl)
    (try simp only [Act.put, List.setIfInBounds_toArray, List.set_cons_zero, List.set_cons_succ])
    refine wpAnyH_take (i := 14) (oi := { dst := some 63, op := Op.load 26 (Operand.tmp 2), type := 26, pos := "more.go:69", after := #[{ on := 12, ground := Ground.guard }], guard := some (12, true) }) (v := ?_) rfl (by kernel_rfl) (by kernel_rfl) (by kernel_rfl) (fun _ _ _ h => h) (Or.inl ⟨by rfl, ?hyB14⟩) (by assumption) ?_
    case hyB14 => (intro w hSw; (try dsimp only at hSw); go_simp; try with_reducible rfl)
    (try simp only [Act.put, List.setIfInBounds_toArray, List.set_cons_zero, List.set_cons_succ])
    refine wpAnyH_take (i := 15) (oi := { dst := some 64, op := Op.load 26 (Operand.tmp 3), type := 26, pos := "more.go:69", after := #[{ on := 12, ground := Ground.guard }], guard := some (12, true) }) (v := ?_) rfl (by kernel_rfl) (by kernel_rfl) (by kernel_rfl) (fun _ _ _ h => h) (Or.inl ⟨by rfl, ?hyB15⟩) (by assumption) ?_
    case hyB15 => (intro w hSw; (try dsimp only at hSw); go_simp; try with_reducible rfl)
    (try simp only [Act.put, List.setIfInBounds_toArray, List.set_cons_zero, List.set_cons_succ])
    refine wpAnyH_ready (rs := [16]) (by kernel_rfl) (by simp) ?_
    refine AllReadyH.cons (o := { dst := some 65, op := Op.call { callee := Callee.value (Operand.func 15), args := #[Operand.tmp 63, Operand.tmp 64], argTypes := #[26, 26] }, type := 4, pos := "more.go:69", after := #[{ on := 14, ground := Ground.data }, { on := 15, ground := Ground.data }, { on := 12, ground := Ground.chain }, { on := 12, ground := Ground.guard }], guard := some (12, true) }) rfl (fun K hK => ?_) AllReadyH.nil
    go_simp
    with_reducible refine (HSm.out _).mono ?_
    rintro e w' ⟨rfl, hb⟩
    refine hK.out _ _ ?_ (fun hHeldBxxxx => ?_)
    · obtain ⟨q0, q1, q2, q3, q4, q5, q6, q7, q8, q9, q10, q11, q12, q13, q14, q15, q16⟩ := hHeldBxxx
      exact ⟨keep_cell hb q0, keep_cell hb q1, keep_cell hb q2, keep_cell hb q3, keep_cell hb q4, keep_cell hb q5, keep_cell hb q6, keep_cell hb q7, keep_cell hb q8, keep_cell hb q9, keep_cell hb q10, keep_cell hb q11, keep_cell hb q12, keep_cell hb q13, keep_cell hb q14, below_next q15 hb q16, le_next q16 hb⟩
    clear hK K hb hHeldBxxx
    (try simp only [Act.put, List.setIfInBounds_toArray, List.set_cons_zero, List.set_cons_succ])
    refine wpAnyH_take (i := 17) (oi := { dst := some 66, op := Op.unOp UnOp.not 4 (Operand.tmp 65), type := 4, pos := "more.go:69", after := #[{ on := 16, ground := Ground.data }, { on := 12, ground := Ground.guard }], guard := some (12, true) }) (v := ?_) rfl (by kernel_rfl) (by kernel_rfl) (by kernel_rfl) (fun _ _ _ h => h) (Or.inl ⟨by rfl, ?hyB17⟩) (by assumption) ?_
    case hyB17 => (intro w hSw; (try dsimp only at hSw); go_simp; try with_reducible rfl)
    (try simp only [Act.put, List.setIfInBounds_toArray, List.set_cons_zero, List.set_cons_succ])
    refine wpAnyH_ready (rs := [18]) (by kernel_rfl) (by simp) ?_
    refine AllReadyH.cons (o := { dst := some 67, op := Op.call { callee := Callee.value (Operand.func 21), args := #[Operand.tmp 66], argTypes := #[4] }, type := 26, pos := "more.go:69", after := #[{ on := 17, ground := Ground.data }, { on := 16, ground := Ground.chain }, { on := 12, ground := Ground.guard }], guard := some (12, true) }) rfl (fun K hK => ?_) AllReadyH.nil
    go_simp
    with_reducible refine (rbool_any _ _).mono ?_
    rintro e w' ⟨rfl, hb⟩
    refine hK.out _ _ ?_ (fun hHeldBxxxxx => ?_)
    · obtain ⟨q0, q1, q2, q3, q4, q5, q6, q7, q8, q9, q10, q11, q12, q13, q14, q15, q16⟩ := hHeldBxxxx
      exact ⟨keep_cell hb q0, keep_cell hb q1, keep_cell hb q2, keep_cell hb q3, keep_cell hb q4, keep_cell hb q5, keep_cell hb q6, keep_cell hb q7, keep_cell hb q8, keep_cell hb q9, keep_cell hb q10, keep_cell hb q11, keep_cell hb q12, keep_cell hb q13, keep_cell hb q14, below_next q15 hb q16, le_next q16 hb⟩
    clear hK K hb hHeldBxxxx
    (try simp only [Act.put, List.setIfInBounds_toArray, List.set_cons_zero, List.set_cons_succ])
    refine wpAnyH_ready (rs := [19]) (by kernel_rfl) (by simp) ?_
    refine AllReadyH.cons (o := { dst := some 68, op := Op.call { callee := Callee.value (Operand.func 15), args := #[Operand.tmp 62, Operand.tmp 67], argTypes := #[26, 26] }, type := 4, pos := "more.go:69", after := #[{ on := 13, ground := Ground.data }, { on := 18, ground := Ground.data }, { on := 18, ground := Ground.chain }, { on := 12, ground := Ground.guard }], guard := some (12, true) }) rfl (fun K hK => ?_) AllReadyH.nil
    go_simp
    with_reducible refine (HRf.out _ _ _ _).mono ?_
    rintro e w' ⟨rfl, hb⟩
    refine hK.out _ _ ?_ (fun hHeldBxxxxxx => ?_)
    · obtain ⟨q0, q1, q2, q3, q4, q5, q6, q7, q8, q9, q10, q11, q12, q13, q14, q15, q16⟩ := hHeldBxxxxx
      exact ⟨keep_cell hb q0, keep_cell hb q1, keep_cell hb q2, keep_cell hb q3, keep_cell hb q4, keep_cell hb q5, keep_cell hb q6, keep_cell hb q7, keep_cell hb q8, keep_cell hb q9, keep_cell hb q10, keep_cell hb q11, keep_cell hb q12, keep_cell hb q13, keep_cell hb q14, below_next q15 hb q16, le_next q16 hb⟩
    clear hK K hb hHeldBxxxxx
    (try simp only [Act.put, List.setIfInBounds_toArray, List.set_cons_zero, List.set_cons_succ])
    refine wpAnyH_take (i := 20) (oi := { dst := some 69, op := Op.pick (Operand.tmp 61) (Operand.tmp 68) (Operand.const (Value.bool false)), type := 4, pos := "more.go:69", after := #[{ on := 12, ground := Ground.data }, { on := 19, ground := Ground.data }], guard := none }) (v := ?_) rfl (by kernel_rfl) (by kernel_rfl) (by kernel_rfl) (fun _ _ _ h => h) (Or.inl ⟨by rfl, ?hyB20⟩) (by assumption) ?_
    case hyB20 => (intro w hSw; (try dsimp only at hSw); go_simp; try with_reducible rfl)
    (try simp only [Act.put, List.setIfInBounds_toArray, List.set_cons_zero, List.set_cons_succ])
    refine wpAnyH_take (i := 21) (oi := { dst := some 70, op := Op.move (Operand.tmp 69), type := 4, pos := "more.go:69", after := #[{ on := 20, ground := Ground.data }, { on := 19, ground := Ground.chain }], guard := none }) (v := ?_) rfl (by kernel_rfl) (by kernel_rfl) (by kernel_rfl) (fun _ _ _ h => h) (Or.inl ⟨by rfl, ?hyB21⟩) (by assumption) ?_
    case hyB21 => (intro w hSw; (try dsimp only at hSw); go_simp; try with_reducible rfl)
    (try simp only [Act.put, List.setIfInBounds_toArray, List.set_cons_zero, List.set_cons_succ])
    refine wpAnyH_take (i := 22) (oi := { dst := some 71, op := Op.move (Operand.tmp 11), type := 27, pos := "more.go:69", after := #[{ on := 21, ground := Ground.guard }], guard := some (21, true) }) (v := ?_) rfl (by kernel_rfl) (by kernel_rfl) (by kernel_rfl) (fun _ _ _ h => h) (Or.inl ⟨by rfl, ?hyB22⟩) (by assumption) ?_
    case hyB22 => (intro w hSw; (try dsimp only at hSw); go_simp; try with_reducible rfl)
    (try simp only [Act.put, List.setIfInBounds_toArray, List.set_cons_zero, List.set_cons_succ])
    refine wpAnyH_take (i := 23) (oi := { dst := some 72, op := Op.binOp BinOp.eql 3 (Operand.tmp 71) (Operand.const (Value.int IntKind.i64 0)) 3, type := 4, pos := "more.go:69", after := #[{ on := 22, ground := Ground.data }, { on := 21, ground := Ground.guard }], guard := some (21, true) }) (v := ?_) rfl (by kernel_rfl) (by kernel_rfl) (by kernel_rfl) (fun _ _ _ h => h) (Or.inl ⟨by rfl, ?hyB23⟩) (by assumption) ?_
    case hyB23 => (intro w hSw; (try dsimp only at hSw); go_simp; try with_reducible rfl)
    (try simp only [Act.put, List.setIfInBounds_toArray, List.set_cons_zero, List.set_cons_succ])
    refine wpAnyH_take (i := 24) (oi := { dst := some 73, op := Op.move (Operand.tmp 12), type := 4, pos := "more.go:69", after := #[{ on := 21, ground := Ground.guard }], guard := some (21, true) }) (v := ?_) rfl (by kernel_rfl) (by kernel_rfl) (by kernel_rfl) (fun _ _ _ h => h) (Or.inl ⟨by rfl, ?hyB24⟩) (by assumption) ?_
    case hyB24 => (intro w hSw; (try dsimp only at hSw); go_simp; try with_reducible rfl)
    (try simp only [Act.put, List.setIfInBounds_toArray, List.set_cons_zero, List.set_cons_succ])
    refine wpAnyH_take (i := 25) (oi := { dst := some 74, op := Op.binOp BinOp.eql 4 (Operand.tmp 72) (Operand.tmp 73) 4, type := 4, pos := "more.go:69", after := #[{ on := 23, ground := Ground.data }, { on := 24, ground := Ground.data }, { on := 21, ground := Ground.guard }], guard := some (21, true) }) (v := ?_) rfl (by kernel_rfl) (by kernel_rfl) (by kernel_rfl) (fun _ _ _ h => h) (Or.inl ⟨by rfl, ?hyB25⟩) (by assumption) ?_
    case hyB25 => (intro w hSw; (try dsimp only at hSw); go_simp; try with_reducible rfl)
    (try simp only [Act.put, List.setIfInBounds_toArray, List.set_cons_zero, List.set_cons_succ])
    refine wpAnyH_take (i := 26) (oi := { dst := some 75, op := Op.pick (Operand.tmp 70) (Operand.tmp 74) (Operand.const (Value.bool false)), type := 4, pos := "more.go:69", after := #[{ on := 21, ground := Ground.data }, { on := 25, ground := Ground.data }], guard := none }) (v := ?_) rfl (by kernel_rfl) (by kernel_rfl) (by kernel_rfl) (fun _ _ _ h => h) (Or.inl ⟨by rfl, ?hyB26⟩) (by assumption) ?_
    case hyB26 => (intro w hSw; (try dsimp only at hSw); go_simp; try with_reducible rfl)
    (try simp only [Act.put, List.setIfInBounds_toArray, List.set_cons_zero, List.set_cons_succ])
    refine wpAnyH_take (i := 27) (oi := { dst := some 76, op := Op.move (Operand.tmp 75), type := 4, pos := "more.go:69", after := #[{ on := 26, ground := Ground.data }, { on := 21, ground := Ground.chain }], guard := none }) (v := ?_) rfl (by kernel_rfl) (by kernel_rfl) (by kernel_rfl) (fun _ _ _ h => h) (Or.inl ⟨by rfl, ?hyB27⟩) (by assumption) ?_
    case hyB27 => (intro w hSw; (try dsimp only at hSw); go_simp; try with_reducible rfl)
    (try simp only [Act.put, List.setIfInBounds_toArray, List.set_cons_zero, List.set_cons_succ])
    refine wpAnyH_take (i := 28) (oi := { dst := some 77, op := Op.move (Operand.tmp 12), type := 4, pos := "more.go:69", after := #[{ on := 27, ground := Ground.guard }], guard := some (27, true) }) (v := ?_) rfl (by kernel_rfl) (by kernel_rfl) (by kernel_rfl) (fun _ _ _ h => h) (Or.inl ⟨by rfl, ?hyB28⟩) (by assumption) ?_
    case hyB28 => (intro w hSw; (try dsimp only at hSw); go_simp; try with_reducible rfl)
    (try simp only [Act.put, List.setIfInBounds_toArray, List.set_cons_zero, List.set_cons_succ])
    refine wpAnyH_take (i := 29) (oi := { dst := some 78, op := Op.unOp UnOp.not 4 (Operand.tmp 77), type := 4, pos := "more.go:69", after := #[{ on := 28, ground := Ground.data }, { on := 27, ground := Ground.guard }], guard := some (27, true) }) (v := ?_) rfl (by kernel_rfl) (by kernel_rfl) (by kernel_rfl) (fun _ _ _ h => h) (Or.inl ⟨by rfl, ?hyB29⟩) (by assumption) ?_
    case hyB29 => (intro w hSw; (try dsimp only at hSw); go_simp; try with_reducible rfl)
    (try simp only [Act.put, List.setIfInBounds_toArray, List.set_cons_zero, List.set_cons_succ])
    refine wpAnyH_take (i := 30) (oi := { dst := some 79, op := Op.move (Operand.tmp 78), type := 4, pos := "more.go:69", after := #[{ on := 29, ground := Ground.data }, { on := 27, ground := Ground.chain }, { on := 27, ground := Ground.guard }], guard := some (27, true) }) (v := ?_) rfl (by kernel_rfl) (by kernel_rfl) (by kernel_rfl) (fun _ _ _ h => h) (Or.inl ⟨by rfl, ?hyB30⟩) (by assumption) ?_
    case hyB30 => (intro w hSw; (try dsimp only at hSw); go_simp; try with_reducible rfl)
    (try simp only [Act.put, List.setIfInBounds_toArray, List.set_cons_zero, List.set_cons_succ])
    refine wpAnyH_take (i := 31) (oi := { dst := some 80, op := Op.load 26 (Operand.tmp 10), type := 26, pos := "more.go:69", after := #[{ on := 30, ground := Ground.guard }], guard := some (30, false) }) (v := undef) rfl (by kernel_rfl) (by kernel_rfl) (by kernel_rfl) (fun _ _ _ h => h) (Or.inr ⟨by rfl, rfl⟩) (by assumption) ?_
    (try simp only [Act.put, List.setIfInBounds_toArray, List.set_cons_zero, List.set_cons_succ])
    refine wpAnyH_take (i := 32) (oi := { dst := some 81, op := Op.load 26 (Operand.tmp 6), type := 26, pos := "more.go:69", after := #[{ on := 30, ground := Ground.guard }], guard := some (30, false) }) (v := undef) rfl (by kernel_rfl) (by kernel_rfl) (by kernel_rfl) (fun _ _ _ h => h) (Or.inr ⟨by rfl, rfl⟩) (by assumption) ?_
    (try simp only [Act.put, List.setIfInBounds_toArray, List.set_cons_zero, List.set_cons_succ])
    refine wpAnyH_take (i := 33) (oi := { dst := some 82, op := Op.call { callee := Callee.value (Operand.func 15), args := #[Operand.tmp 80, Operand.tmp 81], argTypes := #[26, 26] }, type := 4, pos := "more.go:69", after := #[{ on := 31, ground := Ground.data }, { on := 32, ground := Ground.data }, { on := 30, ground := Ground.chain }, { on := 30, ground := Ground.guard }], guard := some (30, false) }) (v := undef) rfl (by kernel_rfl) (by kernel_rfl) (by kernel_rfl) (fun _ _ _ h => h) (Or.inr ⟨by rfl, rfl⟩) (by assumption) ?_
    (try simp only [Act.put, List.setIfInBounds_toArray, List.set_cons_zero, List.set_cons_succ])
    refine wpAnyH_take (i := 34) (oi := { dst := some 83, op := Op.pick (Operand.tmp 79) (Operand.const (Value.bool true)) (Operand.tmp 82), type := 4, pos := "more.go:69", after := #[{ on := 30, ground := Ground.data }, { on := 33, ground := Ground.data }, { on := 27, ground := Ground.guard }], guard := some (27, true) }) (v := ?_) rfl (by kernel_rfl) (by kernel_rfl) (by kernel_rfl) (fun _ _ _ h => h) (Or.inl ⟨by rfl, ?hyB34⟩) (by assumption) ?_
    case hyB34 => (intro w hSw; (try dsimp only at hSw); go_simp; try with_reducible rfl)
    (try simp only [Act.put, List.setIfInBounds_toArray, List.set_cons_zero, List.set_cons_succ])
    refine wpAnyH_take (i := 35) (oi := { dst := some 84, op := Op.pick (Operand.tmp 76) (Operand.tmp 83) (Operand.const (Value.bool false)), type := 4, pos := "more.go:69", after := #[{ on := 27, ground := Ground.data }, { on := 34, ground := Ground.data }], guard := none }) (v := ?_) rfl (by kernel_rfl) (by kernel_rfl) (by kernel_rfl) (fun _ _ _ h => h) (Or.inl ⟨by rfl, ?hyB35⟩) (by assumption) ?_
    case hyB35 => (intro w hSw; (try dsimp only at hSw); go_simp; try with_reducible rfl)
    (try simp only [Act.put, List.setIfInBounds_toArray, List.set_cons_zero, List.set_cons_succ])
    refine wpAnyH_take (i := 36) (oi := { dst := some 4, op := Op.assign (Operand.tmp 84), type := 4, pos := "more.go:69", after := #[{ on := 35, ground := Ground.data }, { on := 33, ground := Ground.chain }, { on := 0, ground := Ground.phase }, { on := 1, ground := Ground.phase }, { on := 2, ground := Ground.phase }, { on := 3, ground := Ground.phase }, { on := 4, ground := Ground.phase }, { on := 5, ground := Ground.phase }, { on := 6, ground := Ground.phase }, { on := 7, ground := Ground.phase }, { on := 8, ground := Ground.phase }, { on := 9, ground := Ground.phase }, { on := 10, ground := Ground.phase }, { on := 11, ground := Ground.phase }, { on := 12, ground := Ground.phase }, { on := 13, ground := Ground.phase }, { on := 14, ground := Ground.phase }, { on := 15, ground := Ground.phase }, { on := 16, ground := Ground.phase }, { on := 17, ground := Ground.phase }, { on := 18, ground := Ground.phase }, { on := 19, ground := Ground.phase }, { on := 20, ground := Ground.phase }, { on := 21, ground := Ground.phase }, { on := 22, ground := Ground.phase }, { on := 23, ground := Ground.phase }, { on := 24, ground := Ground.phase }, { on := 25, ground := Ground.phase }, { on := 26, ground := Ground.phase }, { on := 27, ground := Ground.phase }, { on := 28, ground := Ground.phase }, { on := 29, ground := Ground.phase }, { on := 30, ground := Ground.phase }, { on := 31, ground := Ground.phase }, { on := 32, ground := Ground.phase }, { on := 33, ground := Ground.phase }, { on := 34, ground := Ground.phase }, { on := 35, ground := Ground.phase }], guard := none }) (v := ?_) rfl (by kernel_rfl) (by kernel_rfl) (by kernel_rfl) (fun _ _ _ h => h) (Or.inl ⟨by rfl, ?hyB36⟩) (by assumption) ?_
    case hyB36 => (intro w hSw; (try dsimp only at hSw); go_simp; try with_reducible rfl)
    (try simp only [Act.put, List.setIfInBounds_toArray, List.set_cons_zero, List.set_cons_succ])
    refine wpAnyH_done (by kernel_rfl) ?_ _
    go_wp2
    go_ret
    go_split_ands
    exact ⟨rfl, by assumption⟩
theorem sames_walk (k i : Int) (s : ByteArray) (k' i' : Int) (s' : ByteArray) (w : World) (_ : inB k = true) (hi : inB i = true) (hs : s.size ≤ maxLen) (_ : inB k' = true) (hi' : inB i' = true) (hs' : s'.size ≤ maxLen) (ht : TabW w) :
    Calls Tryd.prog 8 #[.agg #[.int .i64 (k), .int .i64 (i), .string (s)], .agg #[.int .i64 (k'), .int .i64 (i'), .string (s')]] w fun e w' => e = .returned (.bool true) ∧ Below w.heap.size w w' := by
  unfold maxLen at hs hs'
  cases h : rightB k i s
  · exact sames_wrong k i k' i' s s' w (by omega) (by omega) (.inl h) ht
  cases h' : rightB k' i' s'
  · exact sames_wrong k i k' i' s s' w (by omega) (by omega) (.inr ⟨h, h'⟩) ht
  by_cases c1 : k = 1
  · by_cases c2 : k' = 1
    · refine sames_num k i k' i' s s' _ w ⟨h, hi⟩ ⟨h', hi'⟩ rfl (by simpa using c1) (by simpa using c2) ?_ ht
      rw [sam_num (v := ⟨k, i, s⟩) (u := ⟨k', i', s'⟩) c1 c2, sam_int (v := ⟨k, i, s⟩) (u := ⟨k', i', s'⟩) c1 c2 h h']
      rfl
    · refine sames_other k i k' i' s s' _ w ⟨h, hi⟩ ⟨h', hi'⟩ rfl (.inr ⟨by simpa using c1, by simpa using c2⟩) ?_ ht
      exact sam_none (fun h => c2 h.2)
  · refine sames_other k i k' i' s s' _ w ⟨h, hi⟩ ⟨h', hi'⟩ rfl (.inl (by simpa using c1)) ?_ ht
    exact sam_none (fun h => c1 h.1)
end Go.Proofs.YtfglmfldpmpofaaDoor
