/- The walk of BuiltAny. -/
import Derived.Test.YtfglmfldpmpofaaDoorBtRap
import Derived.Test.YtfglmfldpmpofaaDoorBtKnow
import Derived.Test.YtfglmfldpmpofaaDoorBtOpen
namespace Go.Proofs.YtfglmfldpmpofaaDoor
open Go.RowKit

theorem all_right {L : List Val} {n : Nat} (hw : ∀ v ∈ L, v.wide) (hn : L.length ≤ n) (h : ∀ u ∈ L.take n, rightB u.k u.i u.s = true) : ∀ v ∈ L, rightV v := by
  rw [List.take_of_length_le hn] at h
  exact fun v hv => ⟨h v hv, (hw v hv).2.1⟩
theorem right_take {L : List Val} {n : Nat} {v : Val} (hv : L[n]? = some v) (h : ∀ u ∈ L.take n, rightB u.k u.i u.s = true) (hs : rightB v.k v.i v.s = true) : ∀ u ∈ L.take (n + 1), rightB u.k u.i u.s = true := by
  obtain ⟨hn, e⟩ := List.getElem?_eq_some_iff.1 hv
  rw [List.take_succ_eq_append_getElem hn, e]
  intro u hu
  rcases List.mem_append.1 hu with hu | hu
  · exact h u hu
  · rw [List.mem_singleton.1 hu]; exact hs
theorem right_sz {k i : Int} {s : ByteArray} (hr : rightB k i s = true) : s.size ≤ 1000 := by
  rcases right_kind hr with h1 | h2 | h3
  · rw [h1, right_int, decide_eq_true_eq] at hr; omega
  · rw [h2, right_sym, Bool.and_eq_true] at hr
    have h4 := hr.2
    unfold symB at h4
    rw [Bool.and_eq_true, decide_eq_true_eq] at h4
    omega
  · rw [h3, right_str, decide_eq_true_eq] at hr
    exact hr.2
theorem wide_size {L : List Val} (hw : ∀ v ∈ L, v.wide) {n : Nat} {v : Val} (hv : L[n]? = some v) : v.s.size ≤ 9223372036854775807 := by
  have := (hw v (List.mem_of_getElem? hv)).2.2
  unfold maxLen at this
  omega

set_option maxHeartbeats 1000000 in
set_option maxRecDepth 8000 in
theorem any_long (s : ByteArray) (ao : Option Addr) (N cap : Nat) (w : World) (h : 100 < s.size ∨ 30 < N) (hs : s.size ≤ maxLen) (ht : TabW w) :
    Calls Tryd.prog 3 #[.string s, .slice ao N cap] w fun e w' => e = .returned (.bool true) ∧ Below w.heap.size w w' := by
  have HT : Hid (TabW w) := ht
  unfold maxLen at hs
  clear ht
  by_cases h1 : 100 < s.size
  · have h1' : (100 : Int) < (s.size : Int) := by omega
    go_enter Tryd.func3, Tryd.ntmps3
    go_wp2_with fail
    refine (known6 _ HT.out).mono ?_
    rintro e w1 ⟨rfl, hb1⟩
    go_wp2
    go_ret
    exact ⟨rfl, hb1⟩
  · have h1' : ¬ (100 : Int) < (s.size : Int) := by omega
    have h2' : (30 : Int) < (N : Int) := by omega
    go_enter Tryd.func3, Tryd.ntmps3
    go_wp2_with fail
    refine (known6 _ HT.out).mono ?_
    rintro e w1 ⟨rfl, hb1⟩
    go_wp2
    go_ret
    exact ⟨rfl, hb1⟩

set_option maxHeartbeats 4000000 in
set_option maxRecDepth 8000 in
theorem any_short (s : ByteArray) (ao : Option Addr) (N cap : Nat) (L : List Val) (w : World) (h1 : ¬ 100 < s.size) (h2 : ¬ 30 < N) (hN : L.length = N) (hv : IsVals w ao L) (hw : ∀ v ∈ L, v.wide) (hcp : ao = none → N = 0 ∧ cap = 0) (ht : TabW w) :
    Calls Tryd.prog 3 #[.string s, .slice ao N cap] w fun e w' => e = .returned (.bool true) ∧ Below w.heap.size w w' := by
  have HT : Hid (TabW w) := ht
  have HV : Hid (IsVals w ao L) := hv
  have HW : Hid (∀ v ∈ L, v.wide) := hw
  have HN : Hid (L.length = N) := hN
  have HC : Hid (ao = none → N = 0 ∧ cap = 0) := hcp
  have h1' : ¬ (100 : Int) < (s.size : Int) := by omega
  have h2' : ¬ (30 : Int) < (N : Int) := by omega
  clear ht hv hw hN hcp
  go_enter Tryd.func3, Tryd.ntmps3
  go_wp2_with fail
  refine (known6 _ HT.out).mono ?_
  rintro e w1 ⟨rfl, hb1⟩
  have b1 : Hid (Below w.heap.size w w1) := hb1
  clear hb1
  go_wp2
  go_loopw [5] (fun i wr => ∃ n : Nat, n ≤ N ∧ i = .int .i64 n ∧ Hid (∀ u ∈ L.take n, rightB u.k u.i u.s = true) ∧ Hid (Below w.heap.size w wr)) (fun i _ => N - (intOf i).toNat)
  case atStart => exact ⟨0, Nat.zero_le _, rfl, fun u hu => by simp at hu, b1⟩
  case round =>
    obtain ⟨n, hn, rfl, HF, HWr⟩ := hrel
    clear b1
    by_cases hlt : n < N
    · have hki : (n : Int) < (N : Int) := by omega
      obtain ⟨v, HG⟩ : ∃ v, Hid (L[n]? = some v) := ⟨_, List.getElem?_eq_getElem (by rw [HN.out]; exact hlt)⟩
      obtain ⟨b, o, rfl, c0, c1, c2⟩ := (HV.out.next HWr.out) n v HG.out
      have Hz : Hid (v.s.size ≤ 9223372036854775807) := wide_size HW.out HG.out
      obtain ⟨q, HQ⟩ : ∃ q, Hid (rightB v.k v.i v.s = q) := ⟨_, rfl⟩
      have hrt : Hid (∀ w : World, Calls Tryd.prog 10 #[.agg #[.int .i64 (v.k), .int .i64 (v.i), .string (v.s)]] w fun e w' => e = .returned (.bool q) ∧ Below w.heap.size w w') := by
        intro w; rw [← HQ.out]; exact brright_any v.k v.i v.s w Hz.out
      go_wp2_with fail
      refine (hrt.out _).mono ?_
      rintro e w2 ⟨rfl, hb2⟩
      have b2 : Hid (Below w.heap.size w w2) := next_trans' HWr.out hb2
      clear hb2 hrt
      cases q
      · go_wp2
        go_ret
        exact ⟨rfl, b2.out⟩
      · have HF2 : Hid (∀ u ∈ L.take (n + 1), rightB u.k u.i u.s = true) := right_take HG.out HF.out HQ.out
        go_wp2
        go_roundw
        case rel => exact ⟨n + 1, by omega, by go_num, HF2, b2⟩
        case measure => simp [intOf]; omega
    · have hki : ¬ (n : Int) < (N : Int) := by omega
      have HR : Hid (∀ v ∈ L, rightV v) := all_right HW.out (by rw [HN.out]; omega) HF.out
      obtain ⟨⟨⟨k, i, t⟩, e0⟩, HA⟩ : ∃ p, Hid (applyR (code s) L = p) := ⟨_, rfl⟩
      have HRt : Hid (e0 = 0 → rightB k i t = true) := by
        intro h
        have h3 := applyR_right (c := code s) (L := L)
        rw [HA.out] at h3
        exact h3 h
      have HTr : Hid (TabW wr) := tab_next HT.out HWr.out
      have HVr : Hid (IsVals wr ao L) := HV.out.next HWr.out
      obtain ⟨lo, HL⟩ : ∃ lo, Hid (loC (code s) = lo) := ⟨_, rfl⟩
      obtain ⟨hi, HH⟩ : ∃ hi, Hid (hiC (code s) = hi) := ⟨_, rfl⟩
      obtain ⟨kn, HK⟩ : ∃ kn, Hid (knownB s = kn) := ⟨_, rfl⟩
      have Hn : Hid (N ≤ 100) := by rw [Hid]; omega
      clear HF hlt hn h1 h2
      go_wp2_with fail
      refine (apply_any s k i e0 t ao cap N L _ HN.out Hn.out HVr.out HR.out HTr.out HA.out).mono ?_
      rintro e w2 ⟨rfl, hb2⟩
      have b2 : Hid (Below w.heap.size w w2) := next_trans' HWr.out hb2
      obtain ⟨n2, Hn2⟩ : ∃ n2, w2.heap.size = n2 := ⟨_, rfl⟩
      have HV2 : Hid (IsVals (w2.alloc (.cells #[.int .i64 k, .int .i64 i, .string t] 26)) ao L) := (HVr.out.next hb2).next (alloc_below' _ _)
      have x0 : Hid ((w2.alloc (.cells #[.int .i64 k, .int .i64 i, .string t] 26)).cell? ⟨n2, 0, none⟩ = some (.int .i64 k)) := box_cell Hn2.symm rfl
      have x1 : Hid ((w2.alloc (.cells #[.int .i64 k, .int .i64 i, .string t] 26)).cell? ⟨n2, 1, none⟩ = some (.int .i64 i)) := box_cell Hn2.symm rfl
      have x2 : Hid ((w2.alloc (.cells #[.int .i64 k, .int .i64 i, .string t] 26)).cell? ⟨n2, 2, none⟩ = some (.string t)) := box_cell Hn2.symm rfl
      clear hb2 HVr HTr
      go_wp2_with fail
      refine (rapply_any s k i e0 t ao cap N L _ HN.out Hn.out HV2.out HC.out HR.out HA.out).mono ?_
      rintro e w3 ⟨rfl, hb3⟩
      have b3 : Hid (Below w.heap.size w w3) := next_trans' (next_trans' b2.out (alloc_below' _ _)) hb3
      have y0 := keep_cell hb3 x0.out
      have y1 := keep_cell hb3 x1.out
      have y2 := keep_cell hb3 x2.out
      have k0 := World.block_lt_of_cell? _ _ y0
      obtain ⟨n3, Hn3⟩ : ∃ n3, Hid (w3.heap.size = n3) := ⟨_, rfl⟩
      have z0 : Hid ((w3.alloc (.cells #[.int .i64 k, .int .i64 i, .string t] 26)).cell? ⟨n2, 0, none⟩ = some (.int .i64 k)) := alloc_cell y0
      have z1 : Hid ((w3.alloc (.cells #[.int .i64 k, .int .i64 i, .string t] 26)).cell? ⟨n2, 1, none⟩ = some (.int .i64 i)) := alloc_cell y1
      have z2 : Hid ((w3.alloc (.cells #[.int .i64 k, .int .i64 i, .string t] 26)).cell? ⟨n2, 2, none⟩ = some (.string t)) := alloc_cell y2
      clear hb3 HV2 x0 x1 x2 b2 Hn2
      by_cases he : e0 = 0
      · have HRt2 : Hid (rightB k i t = true) := HRt.out he
        have Hts : Hid (t.size ≤ 9223372036854775807) := by
          have h := right_sz HRt2.out
          rw [Hid]; omega
        have hrt : Hid (∀ w : World, Calls Tryd.prog 10 #[.agg #[.int .i64 (k), .int .i64 (i), .string (t)]] w fun e w' => e = .returned (.bool true) ∧ Below w.heap.size w w') := by
          intro w; rw [← HRt2.out]; exact brright_any k i t w Hts.out
        subst he
        go_wp2_with (first
          | (go_at_call 13; refine (arity_any s lo hi _ HL.out HH.out).mono ?_; rintro e w4 ⟨rfl, rfl⟩)
          | (go_at_call 14; refine (rarity_any s lo hi _ HL.out HH.out).mono ?_; rintro e w4 ⟨rfl, rfl⟩))
        refine (rsame_any k i k i t t _).mono ?_
        rintro e w5 ⟨rfl, hb5⟩
        have hsm := sameB_refl k i t
        have v0 := keep_cell hb5 z0.out
        have v1 := keep_cell hb5 z1.out
        have v2 := keep_cell hb5 z2.out
        have b5 : Hid (Below w.heap.size w w5) := next_trans' (next_trans' b3.out (alloc_below' _ _)) hb5
        clear hb5 y0 y1 y2 k0
        go_wp2_with (go_at_call 16; refine (bknown_any s kn _ HK.out).mono ?_; rintro e w4 ⟨rfl, rfl⟩)
        refine (rknown_any s kn _ HK.out).mono ?_
        rintro e w6 ⟨rfl, hb6⟩
        have u0 := keep_cell hb6 v0
        have u1 := keep_cell hb6 v1
        have u2 := keep_cell hb6 v2
        have b6 : Hid (Below w.heap.size w w6) := next_trans' b5.out hb6
        clear hb6 v0 v1 v2 b5
        go_wp2_with fail
        refine (hrt.out _).mono ?_
        rintro e w7 ⟨rfl, hb7⟩
        go_wp2
        go_ret
        exact ⟨rfl, next_trans' b6.out hb7⟩
      · have d0 : (e0 != 0) = true := by simpa using he
        clear he HRt
        go_wp2_with (first
          | (go_at_call 13; refine (arity_any s lo hi _ HL.out HH.out).mono ?_; rintro e w4 ⟨rfl, rfl⟩)
          | (go_at_call 14; refine (rarity_any s lo hi _ HL.out HH.out).mono ?_; rintro e w4 ⟨rfl, rfl⟩))
        refine (rsame_any k i k i t t _).mono ?_
        rintro e w5 ⟨rfl, hb5⟩
        have hsm := sameB_refl k i t
        have v0 := keep_cell hb5 z0.out
        have v1 := keep_cell hb5 z1.out
        have v2 := keep_cell hb5 z2.out
        have b5 : Hid (Below w.heap.size w w5) := next_trans' (next_trans' b3.out (alloc_below' _ _)) hb5
        clear hb5 y0 y1 y2 k0
        go_wp2_with (go_at_call 16; refine (bknown_any s kn _ HK.out).mono ?_; rintro e w4 ⟨rfl, rfl⟩)
        refine (rknown_any s kn _ HK.out).mono ?_
        rintro e w6 ⟨rfl, hb6⟩
        go_wp2
        go_ret
        exact ⟨rfl, next_trans' b5.out hb6⟩
theorem any_walk (s : ByteArray) (ao : Option Addr) (N cap : Nat) (L : List Val) (w : World) (hs : s.size ≤ maxLen) (hN : L.length = N) (hv : IsVals w ao L) (hw : ∀ v ∈ L, v.wide) (hcp : ao = none → N = 0 ∧ cap = 0) (ht : TabW w) :
    Calls Tryd.prog 3 #[.string s, .slice ao N cap] w fun e w' => e = .returned (.bool true) ∧ Below w.heap.size w w' := by
  by_cases h : 100 < s.size ∨ 30 < N
  · exact any_long s ao N cap w h hs ht
  · exact any_short s ao N cap L w (fun h1 => h (.inl h1)) (fun h2 => h (.inr h2)) hN hv hw hcp ht
end Go.Proofs.YtfglmfldpmpofaaDoor
