/- Contracts of package val's Quote and Text, and of the reference's. -/
import Derived.Test.YtfglmfldpmpofaaDoorValOf
import Derived.Test.YtfglmfldpmpofaaDoorBuild
import Derived.Test.YtfglmfldpmpofaaDoorRefWords
import Derived.Laws.Strings2
namespace Go.Proofs.YtfglmfldpmpofaaDoor
open Go.RowKit

theorem take_esc (s : ByteArray) (k : Nat) (h : k < s.size) : escL (s.data.toList.take (k + 1)) = escL (s.data.toList.take k) ++ (if markB s[k] = true then [92, s[k]] else [s[k]]) := by
  rw [take_snoc s k h, escL_app, escL_one]
theorem take_esc_len (s : ByteArray) (k : Nat) : (escL (s.data.toList.take k)).length ≤ 2 * k := by
  have h := (escL_len (s.data.toList.take k)).2
  have h2 : (s.data.toList.take k).length ≤ k := List.length_take_le _ _
  omega
theorem take_all (s : ByteArray) (k : Nat) (h : ¬ k < s.size) : s.data.toList.take k = s.data.toList := by
  rw [List.take_of_length_le]; simp; omega
theorem mark_yes {c : UInt8} (h : c.toNat = 34 ∨ c.toNat = 92) : markB c = true := by unfold markB; simpa using h
theorem mark_no {c : UInt8} (h1 : c.toNat ≠ 34) (h2 : c.toNat ≠ 92) : markB c = false := by unfold markB; simp [h1, h2]

/-- Behind k bytes: what the builder holds. -/
def qAt (s : ByteArray) (k : Nat) : List UInt8 := 34 :: escL (s.data.toList.take k)
theorem qAt_zero (s : ByteArray) : qAt s 0 = [34] := rfl
theorem qAt_len (s : ByteArray) (k : Nat) : (qAt s k).length ≤ 2 * k + 1 := by
  have := take_esc_len s k
  unfold qAt; rw [List.length_cons]; omega
theorem qAt_mark (s : ByteArray) (k : Nat) (h : k < s.size) (hm : s[k].toNat = 34 ∨ s[k].toNat = 92) : qAt s (k + 1) = qAt s k ++ [92] ++ [s[k]] := by
  unfold qAt; rw [take_esc s k h, if_pos (mark_yes hm)]; simp
theorem qAt_plain (s : ByteArray) (k : Nat) (h : k < s.size) (h1 : s[k].toNat ≠ 34) (h2 : s[k].toNat ≠ 92) : qAt s (k + 1) = qAt s k ++ [s[k]] := by
  unfold qAt; rw [take_esc s k h, if_neg (by rw [mark_no h1 h2]; decide)]; simp
theorem qAt_end (s : ByteArray) (k : Nat) (h : ¬ k < s.size) : (⟨(qAt s k ++ [34]).toArray⟩ : ByteArray) = quoteS s := by
  unfold qAt quoteS quoteL; rw [take_all s k h]; rfl

theorem ret_s {a b : ByteArray} (h : a = b) : Ending.returned (.string a) = .returned (.string b) := by rw [h]
theorem nat92 : (92 : Int) = ((92 : UInt8).toNat : Int) := rfl
theorem nat34 : (34 : Int) = ((34 : UInt8).toNat : Int) := rfl

set_option maxHeartbeats 1000000 in
theorem quote_any (s : ByteArray) (w : World) (hs : s.size ≤ 100000) :
    Calls Tryd.prog 78 #[.string s] w fun e w' => e = .returned (.string (quoteS s)) ∧ Below w.heap.size w w' := by
  obtain ⟨B, HB⟩ : ∃ B, Hid (w.heap.size = B) := ⟨_, rfl⟩
  have hbw : Hid (Bld B B [] (w.alloc (.cells #[.pointer none, .slice none 0 0] 71))) := by
    rw [Hid, ← HB.out]; exact Lib.fresh_isBuilder _ _ w
  have hb0 : Hid (Below B w (w.alloc (.cells #[.pointer none, .slice none 0 0] 71))) := (Below.refl _ _).alloc (by rw [HB.out]; exact Nat.le_refl _) _
  go_enter Tryd.func78, Tryd.ntmps78
  go_wp2_with fail
  rw [HB.out]
  refine (write_byte B B [] 34 _ nat34 _ hbw.out (by simp) (by have := hb0.out.size; have := HB.out; omega)).mono ?_
  rintro e w1 ⟨rfl, hl1, hb1⟩
  have hB1 : Hid (Below B w w1) := hb0.out.trans hb1
  have hL1 : Hid (Bld B B (qAt s 0) w1) := hl1
  clear hb1 hl1 hbw hb0
  go_wp2_with fail
  go_loopw [8] (fun i wr => ∃ k : Nat, k ≤ s.size ∧ i = .int .i64 k ∧ Hid (Bld B B (qAt s k) wr) ∧ Hid (Below B w wr)) (fun i _ => s.size - (intOf i).toNat)
  case atStart => exact ⟨0, Nat.zero_le _, rfl, hL1, hB1⟩
  case round =>
    obtain ⟨k, hk, rfl, HQ, HW⟩ := hrel
    have HL : Hid ((qAt s k).length ≤ 2 * k + 1) := qAt_len s k
    have HZ : Hid (B ≤ wr.heap.size) := by have := HW.out.size; have := HB.out; rw [Hid]; omega
    clear hB1 hL1
    by_cases hlt : k < s.size
    · have hki : (k : Int) < (s.size : Int) := by omega
      by_cases c1 : s[k].toNat = 34
      · have d1 : ((s[k].toNat : Int) == 34) = true := by simp; omega
        have HE : Hid (qAt s (k + 1) = qAt s k ++ [92] ++ [s[k]]) := qAt_mark s k hlt (.inl c1)
        clear c1
        go_wp2_with fail
        refine (write_byte B B (qAt s k) 92 _ nat92 _ HQ.out (by have := HL.out; omega) HZ.out).mono ?_
        rintro e w2 ⟨rfl, hl2, hb2⟩
        go_wp2_with fail
        refine (write_byte B B _ s[k] _ rfl _ hl2 (by have := HL.out; simp; omega) (by have := HZ.out; have := hb2.size; omega)).mono ?_
        rintro e w3 ⟨rfl, hl3, hb3⟩
        rw [← HE.out] at hl3
        go_wp2_with fail
        go_roundw
        case rel => exact ⟨k + 1, by omega, by go_num, hl3, (HW.out.trans hb2).trans hb3⟩
        case measure => simp [intOf]; omega
      · have d1 : ((s[k].toNat : Int) == 34) = false := by simp; omega
        by_cases c2 : s[k].toNat = 92
        · have d2 : ((s[k].toNat : Int) == 92) = true := by simp; omega
          have HE : Hid (qAt s (k + 1) = qAt s k ++ [92] ++ [s[k]]) := qAt_mark s k hlt (.inr c2)
          clear c1 c2
          go_wp2_with fail
          refine (write_byte B B (qAt s k) 92 _ nat92 _ HQ.out (by have := HL.out; omega) HZ.out).mono ?_
          rintro e w2 ⟨rfl, hl2, hb2⟩
          go_wp2_with fail
          refine (write_byte B B _ s[k] _ rfl _ hl2 (by have := HL.out; simp; omega) (by have := HZ.out; have := hb2.size; omega)).mono ?_
          rintro e w3 ⟨rfl, hl3, hb3⟩
          rw [← HE.out] at hl3
          go_wp2_with fail
          go_roundw
          case rel => exact ⟨k + 1, by omega, by go_num, hl3, (HW.out.trans hb2).trans hb3⟩
          case measure => simp [intOf]; omega
        · have d2 : ((s[k].toNat : Int) == 92) = false := by simp; omega
          have HE : Hid (qAt s (k + 1) = qAt s k ++ [s[k]]) := qAt_plain s k hlt c1 c2
          clear c1 c2
          go_wp2_with fail
          refine (write_byte B B _ s[k] _ rfl _ HQ.out (by have := HL.out; omega) HZ.out).mono ?_
          rintro e w3 ⟨rfl, hl3, hb3⟩
          rw [← HE.out] at hl3
          go_wp2_with fail
          go_roundw
          case rel => exact ⟨k + 1, by omega, by go_num, hl3, HW.out.trans hb3⟩
          case measure => simp [intOf]; omega
    · have HE : Hid ((⟨(qAt s k ++ [34]).toArray⟩ : ByteArray) = quoteS s) := qAt_end s k hlt
      have hki : ¬ (k : Int) < (s.size : Int) := by omega
      go_wp2_with fail
      refine (write_byte B B _ 34 _ nat34 _ HQ.out (by have := HL.out; omega) HZ.out).mono ?_
      rintro e w2 ⟨rfl, hl2, hb2⟩
      go_wp2_with fail
      refine (str_any B B _ _ hl2 (by have := HZ.out; have := hb2.size; omega)).mono ?_
      rintro e w3 ⟨rfl, hb3⟩
      go_wp2_with fail
      go_ret
      refine ⟨ret_s HE.out, ?_⟩
      rw [HB.out]
      exact (HW.out.trans hb2).trans hb3

theorem ext_one (s : ByteArray) (k : Nat) (h : k < s.size) : (s.extract k (k + 1)).data.toList = [s[k]] ∧ (s.extract k (k + 1)).size = 1 := by
  have e : (s.extract k (k + 1)).data.toList = [s[k]] := by
    rw [Lib.extract_eq]
    simp only [Nat.add_sub_cancel_left]
    rw [List.toList_toArray]
    have h1 : k < s.data.toList.length := by simpa using h
    rw [List.drop_eq_getElem_cons h1]
    rfl
  refine ⟨e, ?_⟩
  rw [Lib.size_eq, e]; rfl
theorem slice_one (s : ByteArray) (k : Nat) (h : k < s.size) (w : World) :
    (Instr.slice 9 (.string s) (some (.int .i64 (k : Int))) (some (.int .i64 ((k : Int) + 1))) none).run Tryd.prog w = .ok (.string (s.extract k (k + 1))) w := by
  have := run_slice_string (P := Tryd.prog) w 9 s .i64 .i64 (k : Int) ((k : Int) + 1) Tryd.underlying9 (by omega) (by omega) (by omega)
  rw [this]
  congr 3
/-- The reference's string behind k bytes. -/
theorem q_mark (s t : ByteArray) (k : Nat) (h : k < s.size) (hm : s[k].toNat = 34 ∨ s[k].toNat = 92) (ht : t.data.toList = qAt s k) : (t ++ ⟨#[92]⟩ ++ s.extract k (k + 1)).data.toList = qAt s (k + 1) := by
  rw [ba_app, ba_app, ht, (ext_one s k h).1, qAt_mark s k h hm]
theorem q_plain (s t : ByteArray) (k : Nat) (h : k < s.size) (h1 : s[k].toNat ≠ 34) (h2 : s[k].toNat ≠ 92) (ht : t.data.toList = qAt s k) : (t ++ s.extract k (k + 1)).data.toList = qAt s (k + 1) := by
  rw [ba_app, ht, (ext_one s k h).1, qAt_plain s k h h1 h2]
theorem q_end (s t : ByteArray) (k : Nat) (h : ¬ k < s.size) (ht : t.data.toList = qAt s k) : t ++ ⟨#[34]⟩ = quoteS s := by
  rw [← qAt_end s k h]
  apply ba_ext
  rw [ba_app, ht]
theorem q_size (s t : ByteArray) (k : Nat) (ht : t.data.toList = qAt s k) : t.size ≤ 2 * k + 1 := by
  rw [Lib.size_eq, ht]; exact qAt_len s k

set_option maxHeartbeats 1000000 in
theorem rquote_any (s : ByteArray) (w : World) (hs : s.size ≤ 100000) :
    Calls Tryd.prog 43 #[.string s] w fun e w' => e = .returned (.string (quoteS s)) ∧ w' = w := by
  go_enter Tryd.func43, Tryd.ntmps43
  go_wp2
  go_loop [3, 4] (fun q i => ∃ (k : Nat) (t : ByteArray), k ≤ s.size ∧ i = .int .i64 k ∧ q = .string t ∧ Hid (t.data.toList = qAt s k)) (fun _ i => s.size - (intOf i).toNat)
  case atStart => exact ⟨0, _, Nat.zero_le _, rfl, rfl, rfl⟩
  case round =>
    obtain ⟨k, t, hk, rfl, rfl, HQ⟩ := hrel
    have hsz := q_size s t k HQ.out
    by_cases hlt : k < s.size
    · have hki : (k : Int) < (s.size : Int) := by omega
      have hx := (ext_one s k hlt).2
      have hsl := slice_one s k hlt
      by_cases c1 : s[k].toNat = 34
      · have d1 : ((s[k].toNat : Int) == 34) = true := by simp; omega
        have HE : Hid ((t ++ ⟨#[92]⟩ ++ s.extract k (k + 1)).data.toList = qAt s (k + 1)) := q_mark s t k hlt (.inl c1) HQ.out
        clear c1
        go_wp2
        go_round
        case rel => exact ⟨k + 1, _, by omega, by go_num, rfl, HE⟩
        case measure => simp [intOf]; omega
      · have d1 : ((s[k].toNat : Int) == 34) = false := by simp; omega
        by_cases c2 : s[k].toNat = 92
        · have d2 : ((s[k].toNat : Int) == 92) = true := by simp; omega
          have HE : Hid ((t ++ ⟨#[92]⟩ ++ s.extract k (k + 1)).data.toList = qAt s (k + 1)) := q_mark s t k hlt (.inr c2) HQ.out
          clear c1 c2
          go_wp2
          go_round
          case rel => exact ⟨k + 1, _, by omega, by go_num, rfl, HE⟩
          case measure => simp [intOf]; omega
        · have d2 : ((s[k].toNat : Int) == 92) = false := by simp; omega
          have HE : Hid ((t ++ s.extract k (k + 1)).data.toList = qAt s (k + 1)) := q_plain s t k hlt c1 c2 HQ.out
          clear c1 c2
          go_wp2
          go_round
          case rel => exact ⟨k + 1, _, by omega, by go_num, rfl, HE⟩
          case measure => simp [intOf]; omega
    · have HE : Hid (t ++ ⟨#[34]⟩ = quoteS s) := q_end s t k hlt HQ.out
      have hki : ¬ (k : Int) < (s.size : Int) := by omega
      go_wp2
      go_ret
      exact ⟨ret_s HE.out, rfl⟩

theorem text_val (k i : Int) (s : ByteArray) (w : World) (hs : s.size ≤ 100000) (hi : inB i = true) (ht : TabW w) :
    Calls Tryd.prog 72 #[.agg #[.int .i64 (k), .int .i64 (i), .string (s)]] w fun e w' => e = .returned (.string (textS k i s)) ∧ Below w.heap.size w w' := by
  unfold textS
  by_cases c1 : k = 1
  · subst c1
    rw [if_pos rfl]
    have ht2 : TabW (w.alloc (.cells #[.int .i64 1, .int .i64 i, .string s] 26)) := tab_next ht ((Below.refl _ _).alloc (Nat.le_refl _) _)
    go_enter Tryd.func72, Tryd.ntmps72
    go_wp2_with fail
    refine (Go.Proofs.YtfglmfldpmpofaaDoor.text_any i _ hi ht2).mono ?_
    rintro e w1 ⟨rfl, hb⟩
    go_wp2
    go_ret
    exact ⟨rfl, below_next ((Below.refl _ _).alloc (Nat.le_refl _) _) hb (by simp)⟩
  rw [if_neg c1]
  have d1 : (k == 1) = false := by simpa using c1
  by_cases c2 : k = 2
  · subst c2
    rw [if_pos rfl]
    go_enter Tryd.func72, Tryd.ntmps72
    go_wp2
    go_ret
    exact ⟨rfl, (Below.refl _ _).alloc (Nat.le_refl _) _⟩
  rw [if_neg c2]
  have d2 : (k == 2) = false := by simpa using c2
  by_cases c3 : k = 3
  · subst c3
    rw [if_pos rfl]
    go_enter Tryd.func72, Tryd.ntmps72
    go_wp2_with fail
    refine (quote_any s _ hs).mono ?_
    rintro e w1 ⟨rfl, hb⟩
    go_wp2
    go_ret
    exact ⟨rfl, below_next ((Below.refl _ _).alloc (Nat.le_refl _) _) hb (by simp)⟩
  rw [if_neg c3]
  have d3 : (k == 3) = false := by simpa using c3
  clear c1 c2 c3
  go_enter Tryd.func72, Tryd.ntmps72
  go_wp2
  go_ret
  exact ⟨rfl, (Below.refl _ _).alloc (Nat.le_refl _) _⟩

theorem rtext_val (k i : Int) (s : ByteArray) (w : World) (hs : s.size ≤ 100000) (hi : inB i = true) :
    Calls Tryd.prog 31 #[.agg #[.int .i64 (k), .int .i64 (i), .string (s)]] w fun e w' => e = .returned (.string (rtextS k i s)) ∧ Below w.heap.size w w' := by
  unfold rtextS
  by_cases c1 : k = 1
  · subst c1
    rw [if_pos rfl]
    go_enter Tryd.func31, Tryd.ntmps31
    go_wp2_with fail
    refine (rtext_any i _ hi).mono ?_
    rintro e w1 ⟨rfl, hb⟩
    go_wp2
    go_ret
    exact ⟨rfl, below_next ((Below.refl _ _).alloc (Nat.le_refl _) _) hb (by simp)⟩
  rw [if_neg c1]
  have d1 : (k == 1) = false := by simpa using c1
  by_cases c3 : k = 3
  · subst c3
    rw [if_pos rfl]
    go_enter Tryd.func31, Tryd.ntmps31
    go_wp2_with fail
    refine (rquote_any s _ hs).mono ?_
    rintro e w1 ⟨rfl, rfl⟩
    go_wp2
    go_ret
    exact ⟨rfl, (Below.refl _ _).alloc (Nat.le_refl _) _⟩
  rw [if_neg c3]
  have d3 : (k == 3) = false := by simpa using c3
  clear c1 c3
  go_enter Tryd.func31, Tryd.ntmps31
  go_wp2
  go_ret
  exact ⟨rfl, (Below.refl _ _).alloc (Nat.le_refl _) _⟩
end Go.Proofs.YtfglmfldpmpofaaDoor
