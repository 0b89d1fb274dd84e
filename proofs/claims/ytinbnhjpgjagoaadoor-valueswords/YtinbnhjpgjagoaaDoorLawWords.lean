/- The walk of ValuesWords. -/
import Derived.Test.YtinbnhjpgjagoaaDoorValKnown
namespace Go.Proofs.YtinbnhjpgjagoaaDoor
open Go.RowKit

/-- What the law's own loop holds: k bytes are back, and it stands behind their writing. -/
theorem q_size2 (s : ByteArray) : (quoteS s).size = (escL s.data.toList).length + 2 := quoteS_size s
theorem esc_split (s : ByteArray) (k : Nat) (h : k < s.size) : escL s.data.toList = escL (s.data.toList.take k) ++ ((if markB s[k] = true then [92, s[k]] else [s[k]]) ++ escL (s.data.toList.drop (k + 1))) := by
  have h1 : k < s.data.toList.length := by simpa using h
  have e : s.data.toList = s.data.toList.take k ++ (s[k] :: s.data.toList.drop (k + 1)) := by
    have h2 : s.data.toList.drop k = s[k] :: s.data.toList.drop (k + 1) := by rw [List.drop_eq_getElem_cons h1]; rfl
    rw [← h2, List.take_append_drop]
  calc escL s.data.toList = escL (s.data.toList.take k ++ (s[k] :: s.data.toList.drop (k + 1))) := by rw [← e]
    _ = _ := by rw [escL_app, escL_cons]
/-- Where the loop stands behind k bytes. -/
def pos (s : ByteArray) (k : Nat) : Nat := (escL (s.data.toList.take k)).length + 1
theorem pos_zero (s : ByteArray) : pos s 0 = 1 := rfl
theorem pos_end (s : ByteArray) (k : Nat) (h : ¬ k < s.size) : pos s k + 1 = (quoteS s).size := by
  unfold pos; rw [quoteS_size, take_all s k h]
theorem pos_mark (s : ByteArray) (k : Nat) (h : k < s.size) (hm : markB s[k] = true) : pos s (k + 1) = pos s k + 2 := by
  unfold pos; rw [take_esc s k h, if_pos hm, List.length_append]; simp
theorem pos_plain (s : ByteArray) (k : Nat) (h : k < s.size) (hm : markB s[k] = false) : pos s (k + 1) = pos s k + 1 := by
  unfold pos; rw [take_esc s k h, if_neg (by rw [hm]; decide), List.length_append]; simp
theorem pos_lt (s : ByteArray) (k : Nat) (h : k < s.size) : pos s k + 1 < (quoteS s).size := by
  unfold pos; rw [quoteS_size, esc_split s k h, List.length_append, List.length_append]
  split <;> simp <;> omega
theorem pos_lt_mark (s : ByteArray) (k : Nat) (h : k < s.size) (hm : markB s[k] = true) : pos s k + 2 < (quoteS s).size := by
  unfold pos; rw [quoteS_size, esc_split s k h, List.length_append, List.length_append, if_pos hm]
  simp; omega
theorem get_q (q : ByteArray) (j : Nat) (hj : j < q.size) (l : List UInt8) (e : q.data.toList = l) (c : UInt8) (hc : l[j]? = some c) : q[j] = c := by
  have h1 : q.data.toList[j]? = some c := by rw [e]; exact hc
  have h2 : q[j] = q.data.toList[j]'(by simpa using hj) := rfl
  rw [h2]
  exact (List.getElem?_eq_some_iff.1 h1).2
theorem at_mark (s : ByteArray) (k : Nat) (h : k < s.size) (hm : markB s[k] = true) : (quoteS s)[pos s k]'(by have := pos_lt s k h; omega) = 92 ∧ (quoteS s)[pos s k + 1]'(pos_lt s k h) = s[k] := by
  have e := quoteS_list s
  rw [esc_split s k h, if_pos hm] at e
  constructor
  · refine get_q _ _ _ _ e _ ?_
    unfold pos
    rw [List.getElem?_cons_succ, List.append_assoc, List.getElem?_append_right (Nat.le_refl _)]
    simp
  · refine get_q _ _ _ _ e _ ?_
    unfold pos
    rw [List.getElem?_cons_succ, List.append_assoc, List.getElem?_append_right (by omega)]
    simp
theorem at_plain (s : ByteArray) (k : Nat) (h : k < s.size) (hm : markB s[k] = false) : (quoteS s)[pos s k]'(by have := pos_lt s k h; omega) = s[k] := by
  have e := quoteS_list s
  rw [esc_split s k h, if_neg (by rw [hm]; decide)] at e
  refine get_q _ _ _ _ e _ ?_
  unfold pos
  rw [List.getElem?_cons_succ, List.append_assoc, List.getElem?_append_right (Nat.le_refl _)]
  simp
theorem mark_not {c : UInt8} (h : markB c = false) : c.toNat ≠ 92 := by
  intro e
  rw [mark_yes (.inr e)] at h
  exact absurd h (by decide)
theorem back_step (s t q : ByteArray) (k j : Nat) (h : k < s.size) (hj : j < q.size) (ht : t.data.toList = s.data.toList.take k) (hq : q[j] = s[k]) : (t ++ q.extract j (j + 1)).data.toList = s.data.toList.take (k + 1) := by
  rw [ba_app, ht, (ext_one q j hj).1, hq, take_snoc s k h]
theorem back_end (s t : ByteArray) (k : Nat) (h : ¬ k < s.size) (ht : t.data.toList = s.data.toList.take k) : t = s := by
  apply ba_ext
  rw [ht, take_all s k h]
theorem back_size (s t : ByteArray) (k : Nat) (ht : t.data.toList = s.data.toList.take k) : t.size ≤ k := by
  rw [Lib.size_eq, ht]; exact List.length_take_le _ _

theorem words_long (k i : Int) (s : ByteArray) (w : World) (hl : decide ((s.size : Int) ≤ 1100) = false) (ht : TabW w) :
    Calls Tryd.prog 3 #[.agg #[.int .i64 (k), .int .i64 (i), .string (s)]] w fun e w' => e = .returned (.bool true) ∧ Below w.heap.size w w' := by
  have ht1 := tab_alloc (o := .cells #[.int .i64 k, .int .i64 i, .string s] 23) ht
  have hb0 : Below w.heap.size w (w.alloc (.cells #[.int .i64 k, .int .i64 i, .string s] 23)) := (Below.refl _ _).alloc (Nat.le_refl _) _
  go_enter Tryd.func3, Tryd.ntmps3
  go_wp2_with fail
  refine (known_yes _ ht1).mono ?_
  rintro e w1 ⟨rfl, hb1⟩
  have a0 := keep_cell hb1 (box0 (w := w) (cs := #[.int .i64 k, .int .i64 i, .string s]) (T := 23) (j := 0) rfl)
  have a1 := keep_cell hb1 (box0 (w := w) (cs := #[.int .i64 k, .int .i64 i, .string s]) (T := 23) (j := 1) rfl)
  have a2 := keep_cell hb1 (box0 (w := w) (cs := #[.int .i64 k, .int .i64 i, .string s]) (T := 23) (j := 2) rfl)
  have b1 := below_next hb0 hb1 (by simp)
  have z1 : w.heap.size ≤ w1.heap.size := b1.size
  clear ht ht1 hb1 hb0
  go_wp2_with fail
  refine (few_any _ _ _ _).mono ?_
  rintro e w2 ⟨rfl, hb2⟩
  go_wp2
  go_ret
  exact ⟨rfl, below_next b1 hb2 z1⟩

theorem words_wrong (k i : Int) (s : ByteArray) (w : World) (hl : (s.size : Int) ≤ 1100) (HR : Hid (rightB k i s = false)) (ht : TabW w) :
    Calls Tryd.prog 3 #[.agg #[.int .i64 (k), .int .i64 (i), .string (s)]] w fun e w' => e = .returned (.bool true) ∧ Below w.heap.size w w' := by
  have ht1 := tab_alloc (o := .cells #[.int .i64 k, .int .i64 i, .string s] 23) ht
  have hb0 : Below w.heap.size w (w.alloc (.cells #[.int .i64 k, .int .i64 i, .string s] 23)) := (Below.refl _ _).alloc (Nat.le_refl _) _
  have hr : Hid (∀ w : World, Calls Tryd.prog 9 #[.agg #[.int .i64 (k), .int .i64 (i), .string (s)]] w fun e w' => e = .returned (.bool false) ∧ Below w.heap.size w w') := by
    intro w; rw [← HR.out]; exact rright_any k i s w (by omega)
  go_enter Tryd.func3, Tryd.ntmps3
  go_wp2_with fail
  refine (known_yes _ ht1).mono ?_
  rintro e w1 ⟨rfl, hb1⟩
  have a0 := keep_cell hb1 (box0 (w := w) (cs := #[.int .i64 k, .int .i64 i, .string s]) (T := 23) (j := 0) rfl)
  have a1 := keep_cell hb1 (box0 (w := w) (cs := #[.int .i64 k, .int .i64 i, .string s]) (T := 23) (j := 1) rfl)
  have a2 := keep_cell hb1 (box0 (w := w) (cs := #[.int .i64 k, .int .i64 i, .string s]) (T := 23) (j := 2) rfl)
  have b1 := below_next hb0 hb1 (by simp)
  have z1 : w.heap.size ≤ w1.heap.size := b1.size
  clear ht ht1 hb1 hb0
  go_wp2_with fail
  refine (few_any _ _ _ _).mono ?_
  rintro e w2 ⟨rfl, hb2⟩
  have c0 := keep_cell hb2 a0
  have c1 := keep_cell hb2 a1
  have c2 := keep_cell hb2 a2
  have b2 := below_next b1 hb2 z1
  have z2 : w.heap.size ≤ w2.heap.size := b2.size
  clear hb2
  go_wp2_with fail
  refine (hr.out _).mono ?_
  rintro e w3 ⟨rfl, hb3⟩
  go_wp2
  go_ret
  exact ⟨rfl, below_next b2 hb3 z2⟩
set_option maxHeartbeats 4000000 in
set_option maxRecDepth 100000 in
theorem words_right (k i : Int) (s : ByteArray) (w : World) (hl : (s.size : Int) ≤ 1100) (HR : Hid (rightB k i s = true)) (hk : k = 1 ∨ k = 2 ∨ k = 3) (hi : inB i = true) (ht : TabW w) :
    Calls Tryd.prog 3 #[.agg #[.int .i64 (k), .int .i64 (i), .string (s)]] w fun e w' => e = .returned (.bool true) ∧ Below w.heap.size w w' := by
  have ht1 := tab_alloc (o := .cells #[.int .i64 k, .int .i64 i, .string s] 23) ht
  have hb0 : Below w.heap.size w (w.alloc (.cells #[.int .i64 k, .int .i64 i, .string s] 23)) := (Below.refl _ _).alloc (Nat.le_refl _) _
  have hr : Hid (∀ w : World, Calls Tryd.prog 9 #[.agg #[.int .i64 (k), .int .i64 (i), .string (s)]] w fun e w' => e = .returned (.bool true) ∧ Below w.heap.size w w') := by
    intro w; rw [← HR.out]; exact rright_any k i s w (by omega)
  obtain ⟨q, HQ⟩ : ∃ q, Hid (quoteS s = q) := ⟨_, rfl⟩
  obtain ⟨X, HX⟩ : ∃ X, Hid (textS k i s = X) := ⟨_, rfl⟩
  have hqu : Hid (∀ w : World, Calls Tryd.prog 10 #[.string s] w fun e w' => e = .returned (.string q) ∧ Below w.heap.size w w') := by
    intro w; rw [← HQ.out]; exact quote_any s w (by omega)
  have hrq : Hid (∀ w : World, Calls Tryd.prog 13 #[.string s] w fun e w' => e = .returned (.string q) ∧ w' = w) := by
    intro w; rw [← HQ.out]; exact rquote_any s w (by omega)
  have htx : Hid (∀ w : World, TabW w → Calls Tryd.prog 11 #[.agg #[.int .i64 (k), .int .i64 (i), .string (s)]] w fun e w' => e = .returned (.string X) ∧ Below w.heap.size w w') := by
    intro w h; rw [← HX.out]; exact text_val k i s w (by omega) hi h
  have hrt : Hid (∀ w : World, Calls Tryd.prog 12 #[.agg #[.int .i64 (k), .int .i64 (i), .string (s)]] w fun e w' => e = .returned (.string X) ∧ Below w.heap.size w w') := by
    intro w; rw [← HX.out, text_right hk]; exact rtext_val k i s w (by omega) hi
  have HS : Hid (q.size ≤ 2202 ∧ 2 ≤ q.size) := by
    rw [← HQ.out, Hid, quoteS_size]
    have := (escL_len s.data.toList).2
    have e : s.data.toList.length = s.size := by simp
    omega
  have hq1 : (q.size : Int) ≤ 2202 := by have := HS.out; omega
  have hq2 : (2 : Int) ≤ (q.size : Int) := by have := HS.out; omega
  clear hk
  go_enter Tryd.func3, Tryd.ntmps3
  go_wp2_with fail
  refine (known_yes _ ht1).mono ?_
  rintro e w1 ⟨rfl, hb1⟩
  have a0 := keep_cell hb1 (box0 (w := w) (cs := #[.int .i64 k, .int .i64 i, .string s]) (T := 23) (j := 0) rfl)
  have a1 := keep_cell hb1 (box0 (w := w) (cs := #[.int .i64 k, .int .i64 i, .string s]) (T := 23) (j := 1) rfl)
  have a2 := keep_cell hb1 (box0 (w := w) (cs := #[.int .i64 k, .int .i64 i, .string s]) (T := 23) (j := 2) rfl)
  have b1 := below_next hb0 hb1 (by simp)
  have z1 : w.heap.size ≤ w1.heap.size := b1.size
  have t1 := tab_next ht1 hb1
  clear ht ht1 hb1 hb0
  go_wp2_with fail
  refine (few_any _ _ _ _).mono ?_
  rintro e w2 ⟨rfl, hb2⟩
  have c0 := keep_cell hb2 a0
  have c1 := keep_cell hb2 a1
  have c2 := keep_cell hb2 a2
  have b2 := below_next b1 hb2 z1
  have z2 : w.heap.size ≤ w2.heap.size := b2.size
  have t2 := tab_next t1 hb2
  clear hb2
  go_wp2_with fail
  refine (hr.out _).mono ?_
  rintro e w3 ⟨rfl, hb3⟩
  have d0 := keep_cell hb3 c0
  have d1 := keep_cell hb3 c1
  have d2 := keep_cell hb3 c2
  have b3 := below_next b2 hb3 z2
  have z3 : w.heap.size ≤ w3.heap.size := b3.size
  have t3 := tab_next t2 hb3
  clear hb3
  go_wp2_with fail
  refine (hqu.out _).mono ?_
  rintro e w4 ⟨rfl, hb4⟩
  have e0 := keep_cell hb4 d0
  have e1 := keep_cell hb4 d1
  have e2 := keep_cell hb4 d2
  have b4 := below_next b3 hb4 z3
  have z4 : w.heap.size ≤ w4.heap.size := b4.size
  have t4 := tab_next t3 hb4
  clear hb4 a0 a1 a2 b1 z1 t1 c0 c1 c2 b2 z2 t2 d0 d1 d2 b3 z3 t3 hr hqu
  go_wp2_with fail
  go_loop [4, 5] (fun bk j => ∃ (n p : Nat) (t : ByteArray), n ≤ s.size ∧ j = .int .i64 p ∧ bk = .string t ∧ Hid (t.data.toList = s.data.toList.take n) ∧ Hid (p = pos s n)) (fun _ j => q.size - (intOf j).toNat)
  case atStart => exact ⟨0, 1, _, Nat.zero_le _, rfl, rfl, rfl, rfl⟩
  case round =>
    obtain ⟨n, p, t, hn, rfl, rfl, HT, HP⟩ := hrel
    have hts : t.size ≤ 1100 := by have := back_size s t n HT.out; omega
    by_cases hlt : n < s.size
    · have hpl : p + 1 < q.size := by have := pos_lt s n hlt; rw [HQ.out] at this; have := HP.out; omega
      have hpi : (p : Int) + 1 < (q.size : Int) := by omega
      have hpj : (p : Int) < (q.size : Int) - 1 := by omega
      have hp0 : p < q.size := by omega
      by_cases hm : markB s[n] = true
      · have h2 : p + 2 < q.size := by have := pos_lt_mark s n hlt hm; rw [HQ.out] at this; have := HP.out; omega
        have h2i : (p : Int) + 1 + 1 ≤ (q.size : Int) := by omega
        have hat := at_mark s n hlt hm
        have g1 : ((q[p].toNat : Int) == 92) = true := by
          have h := hat.1
          simp only [HQ.out, ← HP.out] at h
          rw [h]; rfl
        have g2 : q[p + 1] = s[n] := by
          have h := hat.2
          simp only [HQ.out, ← HP.out] at h
          exact h
        have HE : Hid ((t ++ q.extract (p + 1) (p + 1 + 1)).data.toList = s.data.toList.take (n + 1)) := back_step s t q n (p + 1) hlt hpl HT.out g2
        have HP2 : Hid (p + 2 = pos s (n + 1)) := by rw [Hid, pos_mark s n hlt hm, ← HP.out]
        have hsl : ∀ w, (Instr.slice 9 (.string q) (some (.int .i64 ((p : Int) + 1))) (some (.int .i64 ((p : Int) + 1 + 1))) none).run Tryd.prog w = .ok (.string (q.extract (p + 1) (p + 1 + 1))) w := by
          intro w
          have h := slice_one q (p + 1) hpl w
          rw [show ((p + 1 : Nat) : Int) = (p : Int) + 1 by omega] at h
          exact h
        have hx := (ext_one q (p + 1) hpl).2
        clear hat g2 hm HT HP
        go_wp2
        go_round
        case rel => exact ⟨n + 1, p + 2, _, by omega, by go_num, rfl, HE, HP2⟩
        case measure => simp [intOf]; omega
      · rw [Bool.not_eq_true] at hm
        have hat := at_plain s n hlt hm
        have g0 : q[p] = s[n] := by
          have h := hat
          simp only [HQ.out, ← HP.out] at h
          exact h
        have g1 : ((q[p].toNat : Int) == 92) = false := by
          have := mark_not hm
          rw [g0]; simp; omega
        have HE : Hid ((t ++ q.extract p (p + 1)).data.toList = s.data.toList.take (n + 1)) := back_step s t q n p hlt hp0 HT.out g0
        have HP2 : Hid (p + 1 = pos s (n + 1)) := by rw [Hid, pos_plain s n hlt hm, ← HP.out]
        have hsl := slice_one q p hp0
        have hx := (ext_one q p hp0).2
        clear hat g0 hm HT HP
        go_wp2
        go_round
        case rel => exact ⟨n + 1, p + 1, _, by omega, by go_num, rfl, HE, HP2⟩
        case measure => simp [intOf]; omega
    · have hpe : p + 1 = q.size := by have := pos_end s n hlt; rw [HQ.out] at this; have := HP.out; omega
      have hpj : ¬ (p : Int) < (q.size : Int) - 1 := by omega
      obtain rfl := back_end s t n hlt HT.out
      clear hpe HT HP
      have e0' : w4.drew.cell? ⟨w.heap.size, 0, none⟩ = some (.int .i64 k) := e0
      have e1' : w4.drew.cell? ⟨w.heap.size, 1, none⟩ = some (.int .i64 i) := e1
      have e2' : w4.drew.cell? ⟨w.heap.size, 2, none⟩ = some (.string t) := e2
      have b4' : Below w.heap.size w w4.drew := b4.drew
      have z4' : w.heap.size ≤ w4.drew.heap.size := z4
      have t4' : TabW w4.drew := t4
      clear e0 e1 e2 b4 z4 t4
      go_wp2
      go_region_held3 (fun w' => w'.cell? ⟨w.heap.size, 0, none⟩ = some (.int .i64 k) ∧ w'.cell? ⟨w.heap.size, 1, none⟩ = some (.int .i64 i) ∧ w'.cell? ⟨w.heap.size, 2, none⟩ = some (.string t) ∧ Below w.heap.size w w' ∧ w.heap.size ≤ w'.heap.size ∧ TabW w')
        (((try dsimp only); go_split_ands; refine ⟨?_, ?_, ?_, ?_, ?_, ?_⟩ <;> first | assumption | exact keep_cell (by assumption) (by assumption) | exact below_next (by assumption) (by assumption) (by assumption) | exact le_next (by assumption) (by assumption) | exact tab_next (by assumption) (by assumption)))
        (first
          | (go_at_call 11; go_split_ands; refine (htx.out _ (by assumption)).mono ?_; rintro e w' ⟨rfl, hb⟩)
          | (go_at_call 12; refine (hrt.out _).mono ?_; rintro e w' ⟨rfl, hb⟩)
          | (go_at_call 13; refine (hrq.out _).mono ?_; rintro e w' ⟨rfl, rfl⟩))
      all_goals
        go_split_ands
        go_wp2
        go_ret
        refine ⟨rfl, ?_⟩
        assumption

theorem words_walk (k i : Int) (s : ByteArray) (w : World) (_ : inB k = true) (hi : inB i = true) (_ : s.size ≤ maxLen) (ht : TabW w) :
    Calls Tryd.prog 3 #[.agg #[.int .i64 (k), .int .i64 (i), .string (s)]] w fun e w' => e = .returned (.bool true) ∧ Below w.heap.size w w' := by
  by_cases h : (s.size : Int) ≤ 1100
  · cases hr : rightB k i s
    · exact words_wrong k i s w h hr ht
    · exact words_right k i s w h hr (right_kind hr) hi ht
  · exact words_long k i s w (decide_eq_false h) ht
end Go.Proofs.YtinbnhjpgjagoaaDoor
