import Derived.Test.YtnhbjhdkpbhioaaGreatDoorShelf
import Derived.WalkSmall
import Derived.Laws.BytesArg
import Derived.WalkKit
import Derived.Lib.Builder
import Derived.Laws.Strings2
import Derived.Test.YtnhbjhdkpbhioaaGreatDoorG1
import Derived.Test.YtnhbjhdkpbhioaaGreatDoorG2
namespace Go.Proofs.YtnhbjhdkpbhioaaGreatDoor
open Go.RowKit
def TabW (w : World) : Prop := Lib.TabIs Tryz.prog w "internal/strconv.uint64pow10" .u64 Lib.pow10Tab
theorem gPow : Tryz.prog.globalNamed "internal/strconv.uint64pow10" = some 1 := by kernel_rfl
theorem grow_below (w : World) (k : Nat) (os : Array Obj) : Below w.heap.size w (Sort.grow (w.drewN k) os) := by
  refine ⟨rfl, rfl, rfl, ?_, fun b hb => ?_⟩
  · show w.heap.size ≤ (w.heap ++ os).size
    simp
  · show (w.heap ++ os)[b]? = w.heap[b]?
    rw [Array.getElem?_append_left hb]
theorem tab_pos {w : World} (h : TabW w) : 1 < w.heap.size := World.block_lt_of_cell? _ _ (Lib.TabIs.cell h gPow 0 (by decide))
theorem tab_below {w w' : World} {B : Nat} (h : TabW w) (hb : Below B w w') (hB : 1 < B) : TabW w' := var?_below hb gPow hB h
theorem tab_from {w w' : World} {B : Nat} (h : TabW w) (hb : Below B w w') (hB : w.heap.size ≤ B) : TabW w' := tab_below h hb (Nat.lt_of_lt_of_le (tab_pos h) hB)
theorem tab_next {w w' : World} (h : TabW w) (hb : Below w.heap.size w w') : TabW w' := tab_from h hb (Nat.le_refl _)
theorem text_any (n : Int) (w : World) (hn : inB n = true) (ht : TabW w) :
    Calls Tryz.prog 166 #[.int .i64 n] w fun e w' => e = .returned (.string ⟨(Lib.itoa n).toArray⟩) ∧ Below w.heap.size w w' := by
  rw [inB_iff] at hn
  go_enter Tryz.func166, Tryz.ntmps166
  go_wp2_with (go_at_call 179; refine (Tryz.strconv_FormatInt_10 n hn.1 hn.2 _ ht).mono ?_; rintro e w' ⟨rfl, k, os, rfl⟩)
  go_ret
  exact ⟨rfl, grow_below _ _ _⟩
def SameW (w w' : World) : Prop := ∃ n, w' = w.drewN n
theorem SameW.refl (w : World) : SameW w w := ⟨0, rfl⟩
theorem SameW.size {w w' : World} (h : SameW w w') : w'.heap.size = w.heap.size := by obtain ⟨n, rfl⟩ := h; rfl
theorem SameW.below {w w' : World} (B : Nat) (h : SameW w w') : Below B w w' := by obtain ⟨n, rfl⟩ := h; exact below_drewN (Below.refl _ _) n
end Go.Proofs.YtnhbjhdkpbhioaaGreatDoor
namespace Go.Proofs.YtnhbjhdkpbhioaaGreatDoor
open Go.RowKit
theorem size_any (v : Int) (w : World) (hv : inB v = true) :
    Calls Tryz.prog 120 #[.int .i64 v] w fun e w' => e = .returned (.int .u64 (v.natAbs : Int)) ∧ w' = w := by
  rw [inB_iff] at hv
  obtain ⟨hv1, hv2⟩ := hv
  by_cases c : v < 0
  · have e : (v.natAbs : Int) = -(v + 1) + 1 := by omega
    rw [e]; clear e
    go_enter Tryz.func120, Tryz.ntmps120
    go_wp2
    go_ret
    exact ⟨rfl, rfl⟩
  · have e : (v.natAbs : Int) = v := by omega
    rw [e]; clear e
    go_enter Tryz.func120, Tryz.ntmps120
    go_wp2
    go_ret
    exact ⟨rfl, rfl⟩
def chr (c : Int) : ByteArray := ⟨#[UInt8.ofNat c.toNat]⟩
theorem chr_list (c : Int) : (chr c).data.toList = [UInt8.ofNat c.toNat] := rfl
theorem chr_size (c : Int) : (chr c).size = 1 := rfl
theorem conv_one (W : World) (c : Int) :
    (convert 22 9 (.slice (some ⟨W.heap.size, 0, none⟩) 1 1)).run Tryz.prog (W.alloc (.cells #[.int .u8 c] 5)) = .ok (.string (chr c)) (W.alloc (.cells #[.int .u8 c] 5)) := by
  have hc : ∀ i, i < 1 → (W.alloc (.cells #[.int .u8 c] 5)).cell? ⟨W.heap.size, 0 + i, none⟩ = some (.int .u8 ([c].getD i 0)) := by
    intro i hi
    obtain rfl : i = 0 := by omega
    simp
  exact run_convert_bytes_arg (W.alloc (.cells #[.int .u8 c] 5)) 22 5 Tryz.underlying22 Tryz.underlying5 W.heap.size 0 1 1 [c] rfl hc 9 Tryz.underlying9
theorem ba_ext {a b : ByteArray} (h : a.data.toList = b.data.toList) : a = b := by
  obtain ⟨⟨x⟩⟩ := a
  obtain ⟨⟨y⟩⟩ := b
  simp at h
  rw [h]
theorem ba_app (a b : ByteArray) : (a ++ b).data.toList = a.data.toList ++ b.data.toList := by rw [ByteArray.data_append, Array.toList_append]
theorem ret_str {a b : ByteArray} (h : a = b) : Ending.returned (.string a) = .returned (.string b) := by rw [h]
theorem nDigits_le : ∀ (k u : Nat), u < 10 ^ (k + 1) → Lib.nDigits u ≤ k + 1 := by
  intro k
  induction k with
  | zero => intro u h; rw [Lib.nDigits_small (by simpa using h)]; exact Nat.le_refl _
  | succ k ih =>
    intro u h
    by_cases c : u < 10
    · rw [Lib.nDigits_small c]; omega
    · rw [Lib.nDigits_big c]
      have := ih (u / 10) (by rw [Nat.pow_succ] at h; omega)
      omega
theorem dec_small {u : Nat} (h : u < 10) : Lib.decDigits u = [UInt8.ofNat (48 + u % 10)] := by rw [Lib.decDigits_one h, Nat.mod_eq_of_lt h]
theorem dec_big {u : Nat} (h : ¬ u < 10) : Lib.decDigits u = Lib.decDigits (u / 10) ++ [UInt8.ofNat (48 + u % 10)] := by rw [Lib.decDigits, dif_neg h]
theorem digit_nat (u : Nat) : (48 + (u : Int) % 10).toNat = 48 + u % 10 := by omega
structure TextAt (u0 u : Nat) (t : ByteArray) : Prop where
  size : t.size ≤ 20
  tail : ∃ suf, t.data.toList = UInt8.ofNat (48 + u % 10) :: suf ∧ Lib.decDigits u0 = Lib.decDigits u ++ suf
theorem text_start (u0 : Nat) : TextAt u0 u0 (chr (48 + (u0 : Int) % 10)) :=
  ⟨by rw [chr_size]; decide, [], by rw [chr_list, digit_nat], by simp⟩
theorem text_step {u0 u : Nat} {t : ByteArray} (h0 : u0 < 10 ^ 20) (h : TextAt u0 u t) (hu : ¬ u < 10) : TextAt u0 (u / 10) (chr (48 + (u : Int) / 10 % 10) ++ t) := by
  obtain ⟨suf, h1, h2⟩ := h.tail
  have e : (chr (48 + (u : Int) / 10 % 10) ++ t).data.toList = UInt8.ofNat (48 + u / 10 % 10) :: UInt8.ofNat (48 + u % 10) :: suf := by
    rw [ba_app, chr_list, h1, show (48 + (u : Int) / 10 % 10).toNat = 48 + u / 10 % 10 by omega]; rfl
  have e2 : Lib.decDigits u0 = Lib.decDigits (u / 10) ++ (UInt8.ofNat (48 + u % 10) :: suf) := by rw [h2, dec_big hu]; simp
  refine ⟨?_, _, e, e2⟩
  have hl := congrArg List.length e2
  rw [Lib.decDigits_length, List.length_append, Lib.decDigits_length] at hl
  have h3 := nDigits_le 19 u0 h0
  have h4 := Lib.nDigits_pos (u / 10)
  have h5 : (chr (48 + (u : Int) / 10 % 10) ++ t).size = (chr (48 + (u : Int) / 10 % 10) ++ t).data.toList.length := by simp
  rw [h5, e]
  simp at hl ⊢
  omega
theorem text_end {u0 u : Nat} {t : ByteArray} (h : TextAt u0 u t) (hu : u < 10) : t.data.toList = Lib.decDigits u0 := by
  obtain ⟨suf, h1, h2⟩ := h.tail
  rw [h1, h2, dec_small hu]; rfl
set_option maxHeartbeats 1000000 in
theorem rtext_any (n : Int) (w : World) (hn : inB n = true) :
    Calls Tryz.prog 91 #[.int .i64 n] w fun e w' => e = .returned (.string ⟨(Lib.itoa n).toArray⟩) ∧ Below w.heap.size w w' := by
  have hb := (inB_iff n).1 hn
  obtain ⟨u, hu⟩ : ∃ u : Nat, n.natAbs = u := ⟨_, rfl⟩
  have hu2 : u ≤ 9223372036854775808 := by omega
  have hsz : Hid (∀ w : World, Calls Tryz.prog 120 #[.int .i64 n] w fun e w' => e = .returned (.int .u64 (u : Int)) ∧ w' = w) := by
    intro w; rw [← hu]; exact size_any n w hn
  have HI : Hid (Lib.itoa n = if n < 0 then 45 :: Lib.decDigits u else Lib.decDigits u) := by
    unfold Hid Lib.itoa
    split
    · rw [hu]
    · rw [← hu]; congr 1; omega
  clear hu hn hb
  have hconv := conv_one
  have hchr := chr_size
  go_enter Tryz.func91, Tryz.ntmps91
  go_wp2_with (go_at_call 120; refine (hsz.out _).mono ?_; rintro e w ⟨rfl, rfl⟩)
  go_loopw [3, 4] (fun a b wr => ∃ (v : Nat) (t : ByteArray), v ≤ 9223372036854775808 ∧ a = .int .u64 v ∧ b = .string t ∧ TextAt u v t ∧ Below w.heap.size w wr) (fun a _ _ => (intOf a).toNat)
  case atStart => exact ⟨u, _, hu2, rfl, rfl, text_start u, (Below.refl _ _).alloc (Nat.le_refl _) _⟩
  case round =>
    obtain ⟨v, t, hv, rfl, rfl, hT, hbel⟩ := hrel
    have hts := hT.size
    by_cases hlt : v < 10
    · by_cases hneg : n < 0
      · go_wp2
        go_ret
        refine ⟨ret_str (ba_ext ?_), hbel⟩
        rw [ba_app, HI.out, if_pos hneg, text_end hT hlt]
        rfl
      · go_wp2
        go_ret
        refine ⟨ret_str (ba_ext ?_), hbel⟩
        rw [HI.out, if_neg (by omega), text_end hT hlt]
    · go_wp2
      go_roundw
      case rel => exact ⟨v / 10, _, by omega, by go_num, rfl, text_step (by omega) hT hlt, hbel.alloc hbel.size _⟩
      case measure => simp [intOf]; omega
end Go.Proofs.YtnhbjhdkpbhioaaGreatDoor
namespace Go.Proofs.YtnhbjhdkpbhioaaGreatDoor
open Go.RowKit
theorem alloc_cell {w : World} {p : Addr} {v : Value} {o : Obj} (h : w.cell? p = some v) : (w.alloc o).cell? p = some v := keep_cell ((Below.refl _ _).alloc (Nat.le_refl _) _) h
theorem box_cell {w : World} {b j : Nat} {cs : Array Value} {T : Nat} {v : Value} (hb : b = w.heap.size) (h : cs[j]? = some v) : (w.alloc (.cells cs T)).cell? ⟨b, j, none⟩ = some v := by
  subst hb
  simp [h]
theorem le_next {w w' : World} {B : Nat} (hB : B ≤ w.heap.size) (h : Below w.heap.size w w') : B ≤ w'.heap.size := Nat.le_trans hB h.size
theorem box0 {w : World} {j : Nat} {cs : Array Value} {T : Nat} {v : Value} (h : cs[j]? = some v) : (w.alloc (.cells cs T)).cell? ⟨w.heap.size, j, none⟩ = some v := box_cell rfl h
theorem box1 {w : World} {j : Nat} {cs : Array Value} {T : Nat} {v : Value} {o : Obj} (h : cs[j]? = some v) : ((w.alloc o).alloc (.cells cs T)).cell? ⟨w.heap.size + 1, j, none⟩ = some v := box_cell (by simp) h
end Go.Proofs.YtnhbjhdkpbhioaaGreatDoor
namespace Go.Proofs.YtnhbjhdkpbhioaaGreatDoor
open Go.RowKit
theorem fits_any (c : UInt8) (w : World) :
    Calls Tryz.prog 184 #[.int .u8 (c.toNat : Int)] w fun e w' => e = .returned (.bool (signB c)) ∧ w' = w := by
  have hc : (c.toNat : Int) ≤ 255 := by have := c.toNat_lt; omega
  have key : ∀ (n : Int) (b : Bool), (c.toNat : Int) = n → signB c = b → (Calls Tryz.prog 184 #[.int .u8 n] w fun e w' => e = .returned (.bool b) ∧ w' = w) →
      Calls Tryz.prog 184 #[.int .u8 (c.toNat : Int)] w fun e w' => e = .returned (.bool (signB c)) ∧ w' = w := by
    intro n b h1 h2 h3; rw [h1, h2]; exact h3
  by_cases c1 : c.toNat = 40
  · refine key 40 false (by omega) (by unfold signB; rw [c1]; decide) ?_
    go_enter Tryz.func184, Tryz.ntmps184
    go_wp2
    go_ret
    exact ⟨rfl, rfl⟩
  by_cases c2 : c.toNat = 41
  · refine key 41 false (by omega) (by unfold signB; rw [c2]; decide) ?_
    go_enter Tryz.func184, Tryz.ntmps184
    go_wp2
    go_ret
    exact ⟨rfl, rfl⟩
  by_cases c3 : c.toNat = 34
  · refine key 34 false (by omega) (by unfold signB; rw [c3]; decide) ?_
    go_enter Tryz.func184, Tryz.ntmps184
    go_wp2
    go_ret
    exact ⟨rfl, rfl⟩
  by_cases c4 : c.toNat = 59
  · refine key 59 false (by omega) (by unfold signB; rw [c4]; decide) ?_
    go_enter Tryz.func184, Tryz.ntmps184
    go_wp2
    go_ret
    exact ⟨rfl, rfl⟩
  by_cases c5 : c.toNat = 63
  · refine key 63 false (by omega) (by unfold signB; rw [c5]; decide) ?_
    go_enter Tryz.func184, Tryz.ntmps184
    go_wp2
    go_ret
    exact ⟨rfl, rfl⟩
  by_cases c6 : c.toNat = 126
  · refine key 126 false (by omega) (by unfold signB; rw [c6]; decide) ?_
    go_enter Tryz.func184, Tryz.ntmps184
    go_wp2
    go_ret
    exact ⟨rfl, rfl⟩
  have HS : Hid (signB c = decide (33 ≤ (c.toNat : Int) ∧ (c.toNat : Int) ≤ 126)) := by
    unfold Hid signB; rw [decide_eq_decide]; omega
  have e1 : ((c.toNat : Int) == 40) = false := by simp; omega
  have e2 : ((c.toNat : Int) == 41) = false := by simp; omega
  have e3 : ((c.toNat : Int) == 34) = false := by simp; omega
  have e4 : ((c.toNat : Int) == 59) = false := by simp; omega
  have e5 : ((c.toNat : Int) == 63) = false := by simp; omega
  have e6 : ((c.toNat : Int) == 126) = false := by simp; omega
  clear c1 c2 c3 c4 c5 c6 key
  go_enter Tryz.func184, Tryz.ntmps184
  go_wp2
  all_goals
    go_ret
    exact ⟨ret_b (by rw [HS.out]; simp [*] <;> omega), rfl⟩
theorem sign_any (c : UInt8) (w : World) :
    Calls Tryz.prog 68 #[.int .u8 (c.toNat : Int)] w fun e w' => e = .returned (.bool (signB c)) ∧ w' = w := by
  have HS : Hid (signB c = decide (33 ≤ (c.toNat : Int) ∧ (c.toNat : Int) ≤ 126 ∧ (c.toNat : Int) ≠ 40 ∧ (c.toNat : Int) ≠ 41 ∧ (c.toNat : Int) ≠ 34 ∧ (c.toNat : Int) ≠ 59 ∧ (c.toNat : Int) ≠ 63 ∧ (c.toNat : Int) ≠ 126)) := by
    unfold Hid signB; rw [decide_eq_decide]; omega
  go_enter Tryz.func68, Tryz.ntmps68
  go_wp2
  all_goals
    go_ret
    refine ⟨ret_b ?_, rfl⟩
    rw [HS.out]
    clear HS
    rw [Bool.eq_iff_iff]
    simp only [Bool.and_eq_true, bne_iff_ne, ne_eq, decide_eq_true_iff, Bool.false_eq_true, false_iff]
    omega
theorem isnum_any (s : ByteArray) (w : World) (hs : s.size ≤ 300000) :
    Calls Tryz.prog 185 #[.string s] w fun e w' => e = .returned (.bool (shapeL s.data.toList)) ∧ SameW w w' := by
  have hp : ∀ (v e : Int), parV s.data.toList = v → parE s.data.toList = e → ∀ w : World, Calls Tryz.prog 147 #[.string s] w fun e' w' => e' = .returned (.tuple #[.int .i64 v, .int .i64 e]) ∧ SameW w w' := by
    intro v e h1 h2 w; rw [← h1, ← h2]; exact parse_any s w hs
  cases hsh : shapeL s.data.toList
  · have he : parE s.data.toList = 2 := by unfold parE; rw [hsh, if_neg (by decide)]
    go_enter Tryz.func185, Tryz.ntmps185
    go_wp2_with fail
    refine (hp _ _ rfl he _).mono ?_
    rintro e w1 ⟨rfl, hq⟩
    go_wp2
    go_ret
    exact ⟨rfl, hq⟩
  · obtain ⟨e, he, hne⟩ : ∃ e, parE s.data.toList = e ∧ (e == 2) = false := by
      refine ⟨_, rfl, ?_⟩
      unfold parE; rw [hsh, if_pos rfl]; unfold resE; split <;> rfl
    go_enter Tryz.func185, Tryz.ntmps185
    go_wp2_with fail
    refine (hp _ _ rfl he _).mono ?_
    rintro e w1 ⟨rfl, hq⟩
    clear he hp hsh
    go_wp2
    go_ret
    exact ⟨ret_b (by rw [bne, hne]; rfl), hq⟩
end Go.Proofs.YtnhbjhdkpbhioaaGreatDoor
namespace Go.Proofs.YtnhbjhdkpbhioaaGreatDoor
open Go.RowKit
theorem allS_step (s : ByteArray) (k : Nat) (h : k < s.size) (ha : allS (s.data.toList.take k) = true) : allS (s.data.toList.take (k + 1)) = signB s[k] := by
  rw [take_snoc s k h, allS_snoc, ha, Bool.true_and]
theorem sym_none {s : ByteArray} (h : ¬ (1 ≤ s.size ∧ s.size ≤ 40)) : symB s = false := by unfold symB; rw [decide_eq_false h]; rfl
theorem sym_some {s : ByteArray} (h1 : 1 ≤ s.size) (h2 : s.size ≤ 40) : symB s = (allS s.data.toList && !shapeL s.data.toList) := by unfold symB; rw [decide_eq_true ⟨h1, h2⟩, Bool.true_and]
theorem empty_is (s : ByteArray) : s.toList.isEmpty = decide (s.size = 0) := by
  rw [Lib.toList_data, Lib.size_eq]
  cases s.data.toList <;> simp
set_option maxHeartbeats 1000000 in
theorem issym_any (s : ByteArray) (w : World) (hs : s.size ≤ 300000) :
    Calls Tryz.prog 177 #[.string s] w fun e w' => e = .returned (.bool (symB s)) ∧ SameW w w' := by
  by_cases h0 : s.size = 0
  · have e := size_nil s h0
    subst e
    have HS : Hid (symB ⟨#[]⟩ = false) := sym_none (by decide)
    clear h0 hs
    go_enter Tryz.func177, Tryz.ntmps177
    go_wp2
    go_ret
    exact ⟨ret_b HS.out.symm, SameW.refl _⟩
  have he := not_empty s (by omega)
  by_cases h1 : 40 < s.size
  · have hi : (40 : Int) < (s.size : Int) := by omega
    have HS : Hid (symB s = false) := sym_none (by omega)
    go_enter Tryz.func177, Tryz.ntmps177
    go_wp2
    go_ret
    exact ⟨ret_b HS.out.symm, SameW.refl _⟩
  have hi : ¬ (40 : Int) < (s.size : Int) := by omega
  have HS : Hid (symB s = (allS s.data.toList && !shapeL s.data.toList)) := sym_some (by omega) (by omega)
  have hle : s.size ≤ 300000 := by omega
  obtain ⟨sh, HH⟩ : ∃ sh, Hid (shapeL s.data.toList = sh) := ⟨_, rfl⟩
  have hn : Hid (∀ w : World, Calls Tryz.prog 185 #[.string s] w fun e w' => e = .returned (.bool sh) ∧ SameW w w') := by
    intro w; rw [← HH.out]; exact isnum_any s w hle
  go_enter Tryz.func177, Tryz.ntmps177
  go_wp2
  go_loop [13] (fun i => ∃ k : Nat, k ≤ s.size ∧ i = .int .i64 k ∧ Hid (allS (s.data.toList.take k) = true)) (fun i => s.size - (intOf i).toNat)
  case atStart => exact ⟨0, Nat.zero_le _, rfl, rfl⟩
  case round =>
    obtain ⟨k, hk, rfl, HA⟩ := hrel
    by_cases hlt : k < s.size
    · have hki : (k : Int) < (s.size : Int) := by omega
      have HT : Hid (allS (s.data.toList.take (k + 1)) = signB s[k]) := allS_step s k hlt HA.out
      obtain ⟨sg, HG⟩ : ∃ sg, Hid (signB s[k] = sg) := ⟨signB s[k], by rw [Hid]⟩
      have hf : Hid (∀ w : World, Calls Tryz.prog 184 #[.int .u8 (s[k].toNat : Int)] w fun e w' => e = .returned (.bool sg) ∧ w' = w) := by
        intro w; rw [← HG.out]; exact fits_any s[k] w
      cases sg
      · have HF : Hid (symB s = false) := by
          rw [Hid, HS.out, allS_no (k := k + 1) (by rw [HT.out, HG.out])]; rfl
        go_wp2_with (go_at_call 184; refine (hf.out _).mono ?_; rintro e w ⟨rfl, rfl⟩)
        go_ret
        exact ⟨ret_b HF.out.symm, SameW.refl _⟩
      · have HA2 : Hid (allS (s.data.toList.take (k + 1)) = true) := by rw [Hid, HT.out, HG.out]
        go_wp2_with (go_at_call 184; refine (hf.out _).mono ?_; rintro e w ⟨rfl, rfl⟩)
        go_round
        case rel => exact ⟨k + 1, by omega, by go_num, HA2⟩
        case measure => simp [intOf]; omega
    · have hki : ¬ (k : Int) < (s.size : Int) := by omega
      have HF : Hid (symB s = !sh) := by
        have h := HA.out
        rw [List.take_of_length_le (by simp; omega)] at h
        rw [Hid, HS.out, h, HH.out]; rfl
      go_wp2_with (go_at_call 185; refine (hn.out _).mono ?_; rintro e w1 ⟨rfl, hq⟩)
      go_ret
      exact ⟨ret_b HF.out.symm, hq⟩
theorem same_next {w0 w1 w2 : World} {B : Nat} (h : Below B w0 w1) (h2 : SameW w1 w2) : Below B w0 w2 := h.trans (h2.below B)
theorem right_any (k i : Int) (s : ByteArray) (w : World) (hs : s.size ≤ 300000) :
    Calls Tryz.prog 157 #[.agg #[.int .i64 (k), .int .i64 (i), .string (s)]] w fun e w' => e = .returned (.bool (rightB k i s)) ∧ Below w.heap.size w w' := by
  by_cases c1 : k = 1
  · subst c1
    have HE : Hid (rightB 1 i s = s.toList.isEmpty) := by rw [Hid, right_int, empty_is]
    go_enter Tryz.func157, Tryz.ntmps157
    go_wp2
    go_ret
    exact ⟨ret_b HE.out.symm, (Below.refl _ _).alloc (Nat.le_refl _) _⟩
  by_cases c2 : k = 2
  · subst c2
    obtain ⟨sy, HH⟩ : ∃ sy, Hid (symB s = sy) := ⟨_, rfl⟩
    have hn : Hid (∀ w : World, Calls Tryz.prog 177 #[.string s] w fun e w' => e = .returned (.bool sy) ∧ SameW w w') := by
      intro w; rw [← HH.out]; exact issym_any s w hs
    cases sy
    · have HE : Hid (rightB 2 i s = false) := by rw [Hid, right_sym, HH.out, Bool.and_false]
      go_enter Tryz.func157, Tryz.ntmps157
      go_wp2_with (go_at_call 177; refine (hn.out _).mono ?_; rintro e w1 ⟨rfl, hq⟩)
      go_ret
      exact ⟨ret_b HE.out.symm, same_next ((Below.refl _ _).alloc (Nat.le_refl _) _) hq⟩
    · have hz : s.size ≤ 40 := by
        by_cases hc : s.size ≤ 40
        · exact hc
        · have h := HH.out
          rw [sym_none (by omega)] at h
          exact absurd h (by decide)
      have hz2 : (s.size : Int) ≤ 1000 := by omega
      have HE : Hid (rightB 2 i s = decide (i = 0)) := by rw [Hid, right_sym, HH.out, Bool.and_true]
      go_enter Tryz.func157, Tryz.ntmps157
      go_wp2_with (go_at_call 177; refine (hn.out _).mono ?_; rintro e w1 ⟨rfl, hq⟩; obtain ⟨hcc, hff⟩ := bcells (hq.below _))
      all_goals
        go_ret
        refine ⟨ret_b ?_, same_next ((Below.refl _ _).alloc (Nat.le_refl _) _) hq⟩
        rw [HE.out]
        simp [*]
  by_cases c3 : k = 3
  · subst c3
    have HE : Hid (rightB 3 i s = decide (i = 0 ∧ (s.size : Int) ≤ 1000)) := by rw [Hid, right_str, decide_eq_decide]; omega
    go_enter Tryz.func157, Tryz.ntmps157
    go_wp2
    all_goals
      go_ret
      refine ⟨ret_b ?_, (Below.refl _ _).alloc (Nat.le_refl _) _⟩
      rw [HE.out]
      simp [*]
  have d1 : (k == 1) = false := by simpa using c1
  have d2 : (k == 2) = false := by simpa using c2
  have d3 : (k == 3) = false := by simpa using c3
  have HE : Hid (rightB k i s = false) := right_none i s c1 c2 c3
  clear c1 c2 c3
  go_enter Tryz.func157, Tryz.ntmps157
  go_wp2
  go_ret
  exact ⟨ret_b HE.out.symm, (Below.refl _ _).alloc (Nat.le_refl _) _⟩
def okB (i : Int) (s : ByteArray) : Bool := decide (i = 0 ∧ 1 ≤ s.size ∧ s.size ≤ 40) && !shapeL s.data.toList
theorem ok_no {i : Int} {s : ByteArray} (h : ¬ (i = 0 ∧ 1 ≤ s.size ∧ s.size ≤ 40)) : false = okB i s := by unfold okB; rw [decide_eq_false h]; rfl
theorem ok_yes {i : Int} {s : ByteArray} (h : i = 0 ∧ 1 ≤ s.size ∧ s.size ≤ 40) : (!shapeL s.data.toList) = okB i s := by unfold okB; rw [decide_eq_true h]; rfl
theorem ok_right (i : Int) (s : ByteArray) : (okB i s && allS s.data.toList) = rightB 2 i s := by
  rw [right_sym]
  unfold okB symB
  by_cases h1 : i = 0 <;> by_cases h2 : 1 ≤ s.size ∧ s.size ≤ 40 <;> simp [h1, h2, Bool.and_comm]
end Go.Proofs.YtnhbjhdkpbhioaaGreatDoor
namespace Go.Proofs.YtnhbjhdkpbhioaaGreatDoor
open Go.RowKit
set_option maxHeartbeats 1000000 in
theorem brright_sym1 (i : Int) (s : ByteArray) (w : World) (hs : s.size ≤ 9223372036854775807) (o0 rv : Bool) (HR : Hid ((o0 && allS s.data.toList) = rv)) (d : (i == 0) = false) (HO : Hid (o0 = false)) :
    Calls Tryz.prog 26 #[.agg #[.int .i64 (2), .int .i64 (i), .string (s)]] w fun e w' => e = .returned (.bool rv) ∧ Below w.heap.size w w' := by
  go_enter Tryz.func26, Tryz.ntmps26
  go_wp2
  go_loop [3, 4] (fun o i' => ∃ k : Nat, k ≤ s.size ∧ i' = .int .i64 k ∧ ∃ b, o = .bool b ∧ Hid ((o0 && allS (s.data.toList.take k)) = b)) (fun _ i' => s.size - (intOf i').toNat)
  case atStart => exact ⟨0, Nat.zero_le _, rfl, _, rfl, by rw [Hid, show allS (s.data.toList.take 0) = true from rfl, Bool.and_true]; exact HO.out⟩
  case round =>
    obtain ⟨k, hk, rfl, b, rfl, HA⟩ := hrel
    by_cases hlt : k < s.size
    · have hki : (k : Int) < (s.size : Int) := by omega
      obtain ⟨sg, HG⟩ : ∃ sg, Hid (signB s[k] = sg) := ⟨signB s[k], by rw [Hid]⟩
      have hf : Hid (∀ w : World, Calls Tryz.prog 68 #[.int .u8 (s[k].toNat : Int)] w fun e w' => e = .returned (.bool sg) ∧ w' = w) := by
        intro w; rw [← HG.out]; exact sign_any s[k] w
      have HT : Hid ((o0 && allS (s.data.toList.take (k + 1))) = (b && sg)) := by
        rw [Hid, take_snoc s k hlt, allS_snoc, ← Bool.and_assoc, HA.out, HG.out]
      cases b
      · go_wp2
        go_round
        case rel => exact ⟨k + 1, by omega, by go_num, _, rfl, by rw [Hid, HT.out]; rfl⟩
        case measure => simp [intOf]; omega
      · go_wp2_with (go_at_call 68; refine (hf.out _).mono ?_; rintro e w2 ⟨rfl, rfl⟩)
        go_round
        case rel => exact ⟨k + 1, by omega, by go_num, _, rfl, by rw [Hid, HT.out]; rfl⟩
        case measure => simp [intOf]; omega
    · have hki : ¬ (k : Int) < (s.size : Int) := by omega
      have HF : Hid (b = rv) := by
        have h := HA.out
        rw [List.take_of_length_le (by simp; omega), HR.out] at h
        exact h.symm
      go_wp2
      go_ret
      exact ⟨ret_b HF.out, (Below.refl _ _).alloc (Nat.le_refl _) _⟩
set_option maxHeartbeats 1000000 in
theorem brright_sym3 (s : ByteArray) (w : World) (hs : s.size ≤ 9223372036854775807) (o0 rv : Bool) (HR : Hid ((o0 && allS s.data.toList) = rv)) (h1 : (1 : Int) ≤ (s.size : Int)) (h2 : ¬ (s.size : Int) ≤ 40) (HO : Hid (o0 = false)) :
    Calls Tryz.prog 26 #[.agg #[.int .i64 (2), .int .i64 (0), .string (s)]] w fun e w' => e = .returned (.bool rv) ∧ Below w.heap.size w w' := by
  go_enter Tryz.func26, Tryz.ntmps26
  go_wp2
  go_loop [3, 4] (fun o i' => ∃ k : Nat, k ≤ s.size ∧ i' = .int .i64 k ∧ ∃ b, o = .bool b ∧ Hid ((o0 && allS (s.data.toList.take k)) = b)) (fun _ i' => s.size - (intOf i').toNat)
  case atStart => exact ⟨0, Nat.zero_le _, rfl, _, rfl, by rw [Hid, show allS (s.data.toList.take 0) = true from rfl, Bool.and_true]; exact HO.out⟩
  case round =>
    obtain ⟨k, hk, rfl, b, rfl, HA⟩ := hrel
    by_cases hlt : k < s.size
    · have hki : (k : Int) < (s.size : Int) := by omega
      obtain ⟨sg, HG⟩ : ∃ sg, Hid (signB s[k] = sg) := ⟨signB s[k], by rw [Hid]⟩
      have hf : Hid (∀ w : World, Calls Tryz.prog 68 #[.int .u8 (s[k].toNat : Int)] w fun e w' => e = .returned (.bool sg) ∧ w' = w) := by
        intro w; rw [← HG.out]; exact sign_any s[k] w
      have HT : Hid ((o0 && allS (s.data.toList.take (k + 1))) = (b && sg)) := by
        rw [Hid, take_snoc s k hlt, allS_snoc, ← Bool.and_assoc, HA.out, HG.out]
      cases b
      · go_wp2
        go_round
        case rel => exact ⟨k + 1, by omega, by go_num, _, rfl, by rw [Hid, HT.out]; rfl⟩
        case measure => simp [intOf]; omega
      · go_wp2_with (go_at_call 68; refine (hf.out _).mono ?_; rintro e w2 ⟨rfl, rfl⟩)
        go_round
        case rel => exact ⟨k + 1, by omega, by go_num, _, rfl, by rw [Hid, HT.out]; rfl⟩
        case measure => simp [intOf]; omega
    · have hki : ¬ (k : Int) < (s.size : Int) := by omega
      have HF : Hid (b = rv) := by
        have h := HA.out
        rw [List.take_of_length_le (by simp; omega), HR.out] at h
        exact h.symm
      go_wp2
      go_ret
      exact ⟨ret_b HF.out, (Below.refl _ _).alloc (Nat.le_refl _) _⟩
set_option maxHeartbeats 1000000 in
theorem brright_sym4 (s : ByteArray) (w : World) (o0 rv sh : Bool) (HR : Hid ((o0 && allS s.data.toList) = rv)) (h1 : (1 : Int) ≤ (s.size : Int)) (h2 : (s.size : Int) ≤ 40) (HO : Hid (o0 = !sh)) (HH : Hid (shapeL s.data.toList = sh)) :
    Calls Tryz.prog 26 #[.agg #[.int .i64 (2), .int .i64 (0), .string (s)]] w fun e w' => e = .returned (.bool rv) ∧ Below w.heap.size w w' := by
  have hn : Hid (∀ w : World, Calls Tryz.prog 67 #[.string s] w fun e w' => e = .returned (.bool sh) ∧ w' = w) := by
    intro w; rw [← HH.out]; exact shape_any s w (by omega)
  go_enter Tryz.func26, Tryz.ntmps26
  go_wp2_with (go_at_call 67; refine (hn.out _).mono ?_; rintro e w1 ⟨rfl, rfl⟩)
  go_loop [3, 4] (fun o i' => ∃ k : Nat, k ≤ s.size ∧ i' = .int .i64 k ∧ ∃ b, o = .bool b ∧ Hid ((o0 && allS (s.data.toList.take k)) = b)) (fun _ i' => s.size - (intOf i').toNat)
  case atStart => exact ⟨0, Nat.zero_le _, rfl, _, rfl, by rw [Hid, show allS (s.data.toList.take 0) = true from rfl, Bool.and_true]; exact HO.out⟩
  case round =>
    obtain ⟨k, hk, rfl, b, rfl, HA⟩ := hrel
    by_cases hlt : k < s.size
    · have hki : (k : Int) < (s.size : Int) := by omega
      obtain ⟨sg, HG⟩ : ∃ sg, Hid (signB s[k] = sg) := ⟨signB s[k], by rw [Hid]⟩
      have hf : Hid (∀ w : World, Calls Tryz.prog 68 #[.int .u8 (s[k].toNat : Int)] w fun e w' => e = .returned (.bool sg) ∧ w' = w) := by
        intro w; rw [← HG.out]; exact sign_any s[k] w
      have HT : Hid ((o0 && allS (s.data.toList.take (k + 1))) = (b && sg)) := by
        rw [Hid, take_snoc s k hlt, allS_snoc, ← Bool.and_assoc, HA.out, HG.out]
      cases b
      · go_wp2
        go_round
        case rel => exact ⟨k + 1, by omega, by go_num, _, rfl, by rw [Hid, HT.out]; rfl⟩
        case measure => simp [intOf]; omega
      · go_wp2_with (go_at_call 68; refine (hf.out _).mono ?_; rintro e w2 ⟨rfl, rfl⟩)
        go_round
        case rel => exact ⟨k + 1, by omega, by go_num, _, rfl, by rw [Hid, HT.out]; rfl⟩
        case measure => simp [intOf]; omega
    · have hki : ¬ (k : Int) < (s.size : Int) := by omega
      have HF : Hid (b = rv) := by
        have h := HA.out
        rw [List.take_of_length_le (by simp; omega), HR.out] at h
        exact h.symm
      go_wp2
      go_ret
      exact ⟨ret_b HF.out, (Below.refl _ _).alloc (Nat.le_refl _) _⟩
theorem brright_sym2 (w : World) :
    Calls Tryz.prog 26 #[.agg #[.int .i64 (2), .int .i64 (0), .string (⟨#[]⟩)]] w fun e w' => e = .returned (.bool false) ∧ Below w.heap.size w w' := by
  go_enter Tryz.func26, Tryz.ntmps26
  go_wp2
  refine wp_loop_rounds 1 ?_
  rw [rounds_succ]
  go_wp2
  go_ret
  exact ⟨rfl, (Below.refl _ _).alloc (Nat.le_refl _) _⟩
theorem brright_sym (i : Int) (s : ByteArray) (w : World) (hs : s.size ≤ 9223372036854775807) :
    Calls Tryz.prog 26 #[.agg #[.int .i64 (2), .int .i64 (i), .string (s)]] w fun e w' => e = .returned (.bool (rightB 2 i s)) ∧ Below w.heap.size w w' := by
  have HR := ok_right i s
  by_cases hi : i = 0
  · subst hi
    by_cases h1 : 1 ≤ s.size
    · by_cases h2 : s.size ≤ 40
      · exact brright_sym4 s w _ _ _ HR (by omega) (by omega) (ok_yes ⟨rfl, h1, h2⟩).symm rfl
      · exact brright_sym3 s w hs _ _ HR (by omega) (by omega) (ok_no (by omega)).symm
    · have e := size_nil s (by omega)
      subst e
      exact brright_sym2 w
  · exact brright_sym1 i s w hs _ _ HR (by simpa using hi) (ok_no (by omega)).symm
theorem brright_any (k i : Int) (s : ByteArray) (w : World) (hs : s.size ≤ 9223372036854775807) :
    Calls Tryz.prog 26 #[.agg #[.int .i64 (k), .int .i64 (i), .string (s)]] w fun e w' => e = .returned (.bool (rightB k i s)) ∧ Below w.heap.size w w' := by
  by_cases c1 : k = 1
  · subst c1
    have HE : Hid (rightB 1 i s = s.toList.isEmpty) := by rw [Hid, right_int, empty_is]
    go_enter Tryz.func26, Tryz.ntmps26
    go_wp2
    go_ret
    exact ⟨ret_b HE.out.symm, (Below.refl _ _).alloc (Nat.le_refl _) _⟩
  by_cases c2 : k = 2
  · subst c2
    exact brright_sym i s w hs
  by_cases c3 : k = 3
  · subst c3
    have HE : Hid (rightB 3 i s = decide (i = 0 ∧ (s.size : Int) ≤ 1000)) := by rw [Hid, right_str, decide_eq_decide]; omega
    go_enter Tryz.func26, Tryz.ntmps26
    go_wp2
    all_goals
      go_ret
      refine ⟨ret_b ?_, (Below.refl _ _).alloc (Nat.le_refl _) _⟩
      rw [HE.out]
      simp [*]
  have d1 : (k == 1) = false := by simpa using c1
  have d2 : (k == 2) = false := by simpa using c2
  have d3 : (k == 3) = false := by simpa using c3
  have HE : Hid (rightB k i s = false) := right_none i s c1 c2 c3
  clear c1 c2 c3
  go_enter Tryz.func26, Tryz.ntmps26
  go_wp2
  go_ret
  exact ⟨ret_b HE.out.symm, (Below.refl _ _).alloc (Nat.le_refl _) _⟩
end Go.Proofs.YtnhbjhdkpbhioaaGreatDoor
namespace Go.Proofs.YtnhbjhdkpbhioaaGreatDoor
open Go.RowKit
theorem szB : (Tryz.prog.info? 170).map (·.size) = some 2 := by kernel_rfl
theorem liB : liesAt Tryz.prog Tryz.prog.depth 170 (2 / Tryz.prog.cellsOf 170) 0 170 1 = true := by kernel_rfl
theorem inU : (Tryz.prog.info? 5).map (fun i => (i.zero, i.size, i.bytes)) = some (some (.int .u8 0), 1, 1) := by kernel_rfl
theorem inU' : ∃ i, Tryz.prog.info? 5 = some i ∧ i.zero = some (.int .u8 0) ∧ i.size = 1 ∧ i.bytes = 1 := by
  obtain ⟨i, h, e⟩ := Option.map_eq_some_iff.1 inU
  simp only [Prod.mk.injEq] at e
  exact ⟨i, h, e.1, e.2.1, e.2.2⟩
set_option maxRecDepth 4000 in
theorem check_used (b : Nat) (w : World) (h0 : w.cell? ⟨b, 0, none⟩ = some (.pointer (some ⟨b, 0, none⟩))) :
    Calls Tryz.prog 128 #[.pointer (some ⟨b, 0, none⟩)] w fun e w' => e = .returned (.tuple #[]) ∧ w' = w := by
  obtain ⟨j, hj, _⟩ := Option.map_eq_some_iff.1 szB
  go_enter Tryz.func128, Tryz.ntmps128
  go_wp2
  rw [Lib.run_neq_ptr_same w _ Tryz.underlying168 hj]
  go_wp2
  go_end0
  exact ⟨rfl, rfl⟩
set_option maxRecDepth 4000 in
theorem check_fresh (b : Nat) (w : World) (h0 : w.cell? ⟨b, 0, none⟩ = some (.pointer none)) (hs : w.shape? b = some (170, 2)) (hf : w.frozen? ⟨b, 0, none⟩ = false) :
    Calls Tryz.prog 128 #[.pointer (some ⟨b, 0, none⟩)] w fun e w' => e = .returned (.tuple #[]) ∧ w' = w.setCell ⟨b, 0, none⟩ (.pointer (some ⟨b, 0, none⟩)) := by
  obtain ⟨j, hj, hj2⟩ := Option.map_eq_some_iff.1 szB
  go_enter Tryz.func128, Tryz.ntmps128
  go_wp2
  rw [Lib.run_to_unsafe w ⟨b, 0, none⟩ Tryz.underlying168 Tryz.underlying195 hj (by rw [hj2]; decide) hs (Nat.zero_lt_succ 1)]
  simp only [Result.andThen]
  rw [Oper.upon_value]
  go_wp2
  rw [run_callFunc_extern Tryz.func148 (by kernel_rfl) (by kernel_rfl) (by kernel_rfl) (e := Extern.AbiNoEscape.same) (by kernel_rfl), Lib.run_noEscape]
  simp only [Result.andThen]
  rw [Oper.upon_value]
  go_wp2
  rw [Lib.run_from_unsafe w ⟨b, 0, none⟩ Tryz.underlying195 Tryz.underlying168 hj hs liB]
  simp only [Result.andThen]
  rw [Oper.upon_value]
  go_wp2
  go_end0
  exact ⟨rfl, rfl⟩
def Bld (B b : Nat) (l : List UInt8) (w : World) : Prop := Lib.IsBuilder 170 5 B b (Lib.byteCells l) w
theorem Bld.lt {B b : Nat} {l : List UInt8} {w : World} (h : Bld B b l w) : b < w.heap.size := h.elim (fun x => x.lt) (fun x => x.lt)
theorem check_any (B b : Nat) (l : List UInt8) (w : World) (h : Bld B b l w) :
    Calls Tryz.prog 128 #[.pointer (some ⟨b, 0, none⟩)] w fun e w' => e = .returned (.tuple #[]) ∧ Lib.BuilderAt 170 5 B b (.pointer (some ⟨b, 0, none⟩)) (Lib.byteCells l) w' ∧ Below B w w' := by
  rcases h with h | h
  · refine (check_fresh b w h.cell0 h.shape h.frozen0).mono ?_
    rintro e w' ⟨rfl, rfl⟩
    exact ⟨rfl, h.used _, (Below.refl B w).setCell (p := ⟨b, 0, none⟩) h.1 _⟩
  · refine (check_used b w h.cell0).mono ?_
    rintro e w' ⟨rfl, rfl⟩
    exact ⟨rfl, h, Below.refl B _⟩
theorem cells_snoc (l : List UInt8) (c : UInt8) : Lib.byteCells (l ++ [c]) = Lib.byteCells l ++ [.int .u8 (c.toNat : Int)] := by unfold Lib.byteCells; rw [List.map_append]; rfl
theorem cells_len (l : List UInt8) : (Lib.byteCells l).length = l.length := by unfold Lib.byteCells; rw [List.length_map]
set_option maxHeartbeats 1000000 in
set_option maxRecDepth 100000 in
theorem write_byte (B b : Nat) (l : List UInt8) (c : UInt8) (n : Int) (HN : Hid (n = (c.toNat : Int))) (w : World) (h : Bld B b l w) (hl : l.length ≤ 1000000) (hB : B ≤ w.heap.size) :
    Calls Tryz.prog 129 #[.pointer (some ⟨b, 0, none⟩), .int .u8 n] w fun e w' => e = .returned .nilIface ∧ Bld B b (l ++ [c]) w' ∧ Below B w w' := by
  obtain ⟨i0, hi, hz0, hz1, hz2⟩ := inU'
  have hcl : Hid ((Lib.byteCells l).length = l.length) := cells_len l
  go_enter Tryz.func129, Tryz.ntmps129
  go_wp2_with (go_at_call 128; refine (check_any B b l _ h).mono ?_)
  rintro e w1 ⟨rfl, ⟨hBb, v, hbk, hown, hne⟩, hb1⟩
  have hz := hb1.size
  have c0 : w1.cell? ⟨b, 0, none⟩ = some (.pointer (some ⟨b, 0, none⟩)) := by rw [Lib.cell_of_heap hbk]; rfl
  have c1 : w1.cell? ⟨b, 1, none⟩ = some v := by rw [Lib.cell_of_heap hbk]; rfl
  go_wp2_with (at_builtin; refine wpList_append_own _ rfl _ _ 22 rfl B 5 i0 (.int .u8 0) 1 1 Tryz.underlying22 hi hz0 hz1 hz2 rfl (by decide) _ _ _ rfl (hown.alloc _) ⟨w1.heap.size, 0, none⟩ 1 1 [.int .u8 n] rfl rfl ?c1 ?c2 ?c3 ?c4 ?c5 ?_)
  case c1 =>
    intro j u hj
    match j, hj with
    | 0, hj => simp at hj; subst hj; simp [Addr.add]
  case c2 => intro u hu; simp at hu; subst hu; rfl
  case c3 => unfold maxLen; rw [hcl.out]; omega
  case c4 => rw [hcl.out]; omega
  case c5 => simp; omega
  intro v' w2 hown' hgrow _
  have hlt : b < w1.heap.size := by
    rcases Nat.lt_or_ge b w1.heap.size with h' | h'
    · exact h'
    · simp [Array.getElem?_eq_none h'] at hbk
  have hb2 : w2.heap[b]? = some (.cells #[.pointer (some ⟨b, 0, none⟩), v] 170 (0, 0)) := by
    rw [hgrow.block b (by simp; omega) (fun e => hne e.symm), Lib.alloc_old w1 _ b hlt]
    exact hbk
  have d0 : w2.cell? ⟨b, 0, none⟩ = some (.pointer (some ⟨b, 0, none⟩)) := by rw [Lib.cell_of_heap hb2]; rfl
  have d1 : w2.cell? ⟨b, 1, none⟩ = some v := by rw [Lib.cell_of_heap hb2]; rfl
  have f1 : w2.frozen? ⟨b, 1, none⟩ = false := Lib.frozen_of_heap hb2 1
  obtain ⟨g, cap, rfl⟩ : ∃ g cap, v' = .slice (some ⟨g, 0, none⟩) ((Lib.byteCells l).length + 1) cap := by
    rcases hown'.2 with ⟨_, h0⟩ | ⟨g, cap, cur, hv, _⟩
    · omega
    · exact ⟨g, cap, hv⟩
  clear hcl
  go_wp2
  go_ret
  refine ⟨rfl, Or.inr ?_, ?_⟩
  · rw [cells_snoc, ← HN.out]
    exact Lib.BuilderAt.put (T := 170) (e := 5) hBb hb2 (bs' := Lib.byteCells l ++ [.int .u8 n]) (by simpa using hown') (by decide)
  · exact ((hb1.alloc (by omega) _).grown hgrow (by simp; omega) (fun k hk => (hown.lt k hk).1)).setCell (p := ⟨b, 1, none⟩) hBb _
theorem str_any (B b : Nat) (l : List UInt8) (w : World) (h : Bld B b l w) (hB : B ≤ w.heap.size) :
    Calls Tryz.prog 78 #[.pointer (some ⟨b, 0, none⟩)] w fun e w' => e = .returned (.string ⟨l.toArray⟩) ∧ Below B w w' := Tryz.Builder_String_any B b l w h hB
end Go.Proofs.YtnhbjhdkpbhioaaGreatDoor
namespace Go.Proofs.YtnhbjhdkpbhioaaGreatDoor
open Go.RowKit
theorem take_esc (s : ByteArray) (k : Nat) (h : k < s.size) : escL (s.data.toList.take (k + 1)) = escL (s.data.toList.take k) ++ (if markB s[k] = true then [92, s[k]] else [s[k]]) := by
  rw [take_snoc s k h, escL_app, escL_one]
theorem take_esc_len (s : ByteArray) (k : Nat) : (escL (s.data.toList.take k)).length ≤ 2 * k := by
  have h := (escL_len (s.data.toList.take k)).2
  have h2 : (s.data.toList.take k).length ≤ k := List.length_take_le _ _
  omega
theorem take_all (s : ByteArray) (k : Nat) (h : ¬ k < s.size) : s.data.toList.take k = s.data.toList := by
  rw [List.take_of_length_le]; simp; omega
theorem mark_yes {c : UInt8} (h : c.toNat = 34 ∨ c.toNat = 92) : markB c = true := by unfold markB; simpa using h
theorem mark_no {c : UInt8} (h1 : c.toNat ≠ 34) (h2 : c.toNat ≠ 92) : markB c = false := by unfold markB; simp [h1, h2]
def qAt (s : ByteArray) (k : Nat) : List UInt8 := 34 :: escL (s.data.toList.take k)
theorem qAt_len (s : ByteArray) (k : Nat) : (qAt s k).length ≤ 2 * k + 1 := by
  have := take_esc_len s k
  unfold qAt; rw [List.length_cons]; omega
theorem qAt_mark (s : ByteArray) (k : Nat) (h : k < s.size) (hm : s[k].toNat = 34 ∨ s[k].toNat = 92) : qAt s (k + 1) = qAt s k ++ [92] ++ [s[k]] := by
  unfold qAt; rw [take_esc s k h, if_pos (mark_yes hm)]; simp
theorem qAt_plain (s : ByteArray) (k : Nat) (h : k < s.size) (h1 : s[k].toNat ≠ 34) (h2 : s[k].toNat ≠ 92) : qAt s (k + 1) = qAt s k ++ [s[k]] := by
  unfold qAt; rw [take_esc s k h, if_neg (by rw [mark_no h1 h2]; decide)]; simp
theorem qAt_end (s : ByteArray) (k : Nat) (h : ¬ k < s.size) : (⟨(qAt s k ++ [34]).toArray⟩ : ByteArray) = quoteS s := by
  unfold qAt quoteS quoteL; rw [take_all s k h]; rfl
theorem ret_s {a b : ByteArray} (h : a = b) : Ending.returned (.string a) = .returned (.string b) := by rw [h]
theorem nat92 : (92 : Int) = ((92 : UInt8).toNat : Int) := rfl
theorem nat34 : (34 : Int) = ((34 : UInt8).toNat : Int) := rfl
set_option maxHeartbeats 1000000 in
theorem quote_any (s : ByteArray) (w : World) (hs : s.size ≤ 300000) :
    Calls Tryz.prog 167 #[.string s] w fun e w' => e = .returned (.string (quoteS s)) ∧ Below w.heap.size w w' := by
  obtain ⟨B, HB⟩ : ∃ B, Hid (w.heap.size = B) := ⟨_, rfl⟩
  have hbw : Hid (Bld B B [] (w.alloc (.cells #[.pointer none, .slice none 0 0] 170))) := by
    rw [Hid, ← HB.out]; exact Lib.fresh_isBuilder _ _ w
  have hb0 : Hid (Below B w (w.alloc (.cells #[.pointer none, .slice none 0 0] 170))) := (Below.refl _ _).alloc (by rw [HB.out]; exact Nat.le_refl _) _
  go_enter Tryz.func167, Tryz.ntmps167
  go_wp2_with fail
  rw [HB.out]
  refine (write_byte B B [] 34 _ nat34 _ hbw.out (by simp) (by have := hb0.out.size; have := HB.out; omega)).mono ?_
  rintro e w1 ⟨rfl, hl1, hb1⟩
  have hB1 : Hid (Below B w w1) := hb0.out.trans hb1
  have hL1 : Hid (Bld B B (qAt s 0) w1) := hl1
  clear hb1 hl1 hbw hb0
  go_wp2_with fail
  go_loopw [8] (fun i wr => ∃ k : Nat, k ≤ s.size ∧ i = .int .i64 k ∧ Hid (Bld B B (qAt s k) wr) ∧ Hid (Below B w wr)) (fun i _ => s.size - (intOf i).toNat)
  case atStart => exact ⟨0, Nat.zero_le _, rfl, hL1, hB1⟩
  case round =>
    obtain ⟨k, hk, rfl, HQ, HW⟩ := hrel
    have HL : Hid ((qAt s k).length ≤ 2 * k + 1) := qAt_len s k
    have HZ : Hid (B ≤ wr.heap.size) := by have := HW.out.size; have := HB.out; rw [Hid]; omega
    clear hB1 hL1
    by_cases hlt : k < s.size
    · have hki : (k : Int) < (s.size : Int) := by omega
      by_cases c1 : s[k].toNat = 34
      · have d1 : ((s[k].toNat : Int) == 34) = true := by simp; omega
        have HE : Hid (qAt s (k + 1) = qAt s k ++ [92] ++ [s[k]]) := qAt_mark s k hlt (.inl c1)
        clear c1
        go_wp2_with fail
        refine (write_byte B B (qAt s k) 92 _ nat92 _ HQ.out (by have := HL.out; omega) HZ.out).mono ?_
        rintro e w2 ⟨rfl, hl2, hb2⟩
        go_wp2_with fail
        refine (write_byte B B _ s[k] _ rfl _ hl2 (by have := HL.out; simp; omega) (by have := HZ.out; have := hb2.size; omega)).mono ?_
        rintro e w3 ⟨rfl, hl3, hb3⟩
        rw [← HE.out] at hl3
        go_wp2_with fail
        go_roundw
        case rel => exact ⟨k + 1, by omega, by go_num, hl3, (HW.out.trans hb2).trans hb3⟩
        case measure => simp [intOf]; omega
      · have d1 : ((s[k].toNat : Int) == 34) = false := by simp; omega
        by_cases c2 : s[k].toNat = 92
        · have d2 : ((s[k].toNat : Int) == 92) = true := by simp; omega
          have HE : Hid (qAt s (k + 1) = qAt s k ++ [92] ++ [s[k]]) := qAt_mark s k hlt (.inr c2)
          clear c1 c2
          go_wp2_with fail
          refine (write_byte B B (qAt s k) 92 _ nat92 _ HQ.out (by have := HL.out; omega) HZ.out).mono ?_
          rintro e w2 ⟨rfl, hl2, hb2⟩
          go_wp2_with fail
          refine (write_byte B B _ s[k] _ rfl _ hl2 (by have := HL.out; simp; omega) (by have := HZ.out; have := hb2.size; omega)).mono ?_
          rintro e w3 ⟨rfl, hl3, hb3⟩
          rw [← HE.out] at hl3
          go_wp2_with fail
          go_roundw
          case rel => exact ⟨k + 1, by omega, by go_num, hl3, (HW.out.trans hb2).trans hb3⟩
          case measure => simp [intOf]; omega
        · have d2 : ((s[k].toNat : Int) == 92) = false := by simp; omega
          have HE : Hid (qAt s (k + 1) = qAt s k ++ [s[k]]) := qAt_plain s k hlt c1 c2
          clear c1 c2
          go_wp2_with fail
          refine (write_byte B B _ s[k] _ rfl _ HQ.out (by have := HL.out; omega) HZ.out).mono ?_
          rintro e w3 ⟨rfl, hl3, hb3⟩
          rw [← HE.out] at hl3
          go_wp2_with fail
          go_roundw
          case rel => exact ⟨k + 1, by omega, by go_num, hl3, HW.out.trans hb3⟩
          case measure => simp [intOf]; omega
    · have HE : Hid ((⟨(qAt s k ++ [34]).toArray⟩ : ByteArray) = quoteS s) := qAt_end s k hlt
      have hki : ¬ (k : Int) < (s.size : Int) := by omega
      go_wp2_with fail
      refine (write_byte B B _ 34 _ nat34 _ HQ.out (by have := HL.out; omega) HZ.out).mono ?_
      rintro e w2 ⟨rfl, hl2, hb2⟩
      go_wp2_with fail
      refine (str_any B B _ _ hl2 (by have := HZ.out; have := hb2.size; omega)).mono ?_
      rintro e w3 ⟨rfl, hb3⟩
      go_wp2_with fail
      go_ret
      refine ⟨ret_s HE.out, ?_⟩
      rw [HB.out]
      exact (HW.out.trans hb2).trans hb3
theorem text_val (k i : Int) (s : ByteArray) (w : World) (hs : s.size ≤ 300000) (hi : inB i = true) (ht : TabW w) :
    Calls Tryz.prog 149 #[.agg #[.int .i64 (k), .int .i64 (i), .string (s)]] w fun e w' => e = .returned (.string (textS k i s)) ∧ Below w.heap.size w w' := by
  unfold textS
  by_cases c1 : k = 1
  · subst c1
    rw [if_pos rfl]
    have ht2 : TabW (w.alloc (.cells #[.int .i64 1, .int .i64 i, .string s] 71)) := tab_next ht ((Below.refl _ _).alloc (Nat.le_refl _) _)
    go_enter Tryz.func149, Tryz.ntmps149
    go_wp2_with fail
    refine (Go.Proofs.YtnhbjhdkpbhioaaGreatDoor.text_any i _ hi ht2).mono ?_
    rintro e w1 ⟨rfl, hb⟩
    go_wp2
    go_ret
    exact ⟨rfl, below_next ((Below.refl _ _).alloc (Nat.le_refl _) _) hb (by simp)⟩
  rw [if_neg c1]
  have d1 : (k == 1) = false := by simpa using c1
  by_cases c2 : k = 2
  · subst c2
    rw [if_pos rfl]
    go_enter Tryz.func149, Tryz.ntmps149
    go_wp2
    go_ret
    exact ⟨rfl, (Below.refl _ _).alloc (Nat.le_refl _) _⟩
  rw [if_neg c2]
  have d2 : (k == 2) = false := by simpa using c2
  by_cases c3 : k = 3
  · subst c3
    rw [if_pos rfl]
    go_enter Tryz.func149, Tryz.ntmps149
    go_wp2_with fail
    refine (quote_any s _ hs).mono ?_
    rintro e w1 ⟨rfl, hb⟩
    go_wp2
    go_ret
    exact ⟨rfl, below_next ((Below.refl _ _).alloc (Nat.le_refl _) _) hb (by simp)⟩
  rw [if_neg c3]
  have d3 : (k == 3) = false := by simpa using c3
  clear c1 c2 c3
  go_enter Tryz.func149, Tryz.ntmps149
  go_wp2
  go_ret
  exact ⟨rfl, (Below.refl _ _).alloc (Nat.le_refl _) _⟩
end Go.Proofs.YtnhbjhdkpbhioaaGreatDoor
