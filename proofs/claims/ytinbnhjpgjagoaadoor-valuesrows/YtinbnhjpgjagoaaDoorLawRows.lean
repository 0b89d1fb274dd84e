/- The walk of ValuesRows. -/
import Derived.Test.YtinbnhjpgjagoaaDoorValKnown
import Derived.Test.YtinbnhjpgjagoaaDoorValRows
import Derived.Test.YtinbnhjpgjagoaaDoorValOpen
namespace Go.Proofs.YtinbnhjpgjagoaaDoor
open Go.RowKit

theorem hash_at (ao : Option Addr) (cap : Nat) (L : List Val) (X : ByteArray) (w : World) (hX : hashS L = X) (hv : IsVals w ao L) (hok : ∀ v ∈ L, v.ok) (hL : L.length ≤ 100) (ht : TabW w) :
    Calls Tryd.prog 14 #[.slice ao L.length cap] w fun e w' => e = .returned (.string X) ∧ Below w.heap.size w w' := by
  rw [← hX]; exact hash_any ao cap L w hv hok hL ht
theorem rows_at (ao bo : Option Addr) (ca cb : Nat) (L M : List Val) (b : Bool) (w : World) (hb' : rowsB L M = b) (ha : IsVals w ao L) (hb : IsVals w bo M) (hN : L.length ≤ 100) :
    Calls Tryd.prog 15 #[.slice ao L.length ca, .slice bo M.length cb] w fun e w' => e = .returned (.bool b) ∧ Below w.heap.size w w' := by
  rw [← hb']; exact rows_any ao bo ca cb L M w ha hb hN
theorem few_take {L : List Val} {n : Nat} {v : Val} (hv : L[n]? = some v) (h : ∀ u ∈ L.take n, u.s.size ≤ 1100) (hs : v.s.size ≤ 1100) : ∀ u ∈ L.take (n + 1), u.s.size ≤ 1100 := by
  obtain ⟨hn, e⟩ := List.getElem?_eq_some_iff.1 hv
  rw [List.take_succ_eq_append_getElem hn, e]
  intro u hu
  rcases List.mem_append.1 hu with hu | hu
  · exact h u hu
  · rw [List.mem_singleton.1 hu]; exact hs
theorem few_ok {L : List Val} {n : Nat} (hw : ∀ v ∈ L, v.wide) (hn : L.length ≤ n) (h : ∀ u ∈ L.take n, u.s.size ≤ 1100) : ∀ v ∈ L, v.ok := by
  rw [List.take_of_length_le hn] at h
  exact fun v hv => ⟨(hw v hv).1, (hw v hv).2.1, by have := h v hv; omega⟩
theorem hash_rows (L M : List Val) : ((hashS L).toList == (hashS M).toList) = rowsB L M := by
  rw [beq_ba]
  unfold rowsB
  rw [decide_eq_decide]
  unfold hashS
  constructor
  · intro h
    have := congrArg (fun x : ByteArray => x.data.toList) h
    simpa using this
  · intro h; rw [h]
theorem at_cells {w0 wr : World} {B : Nat} {ao : Option Addr} {L : List Val} {n : Nat} {v : Val} (hv : IsVals w0 ao L) (hB : w0.heap.size = B) (hw : Below B w0 wr) (hn : L[n]? = some v) :
    ∃ b o, ao = some ⟨b, o, none⟩ ∧ wr.cell? ⟨b, o + n * 3, none⟩ = some (.int .i64 v.k) ∧ wr.cell? ⟨b, o + n * 3 + 1, none⟩ = some (.int .i64 v.i) ∧ wr.cell? ⟨b, o + n * 3 + 2, none⟩ = some (.string v.s) := by
  subst hB
  exact (hv.next hw) n v hn

set_option maxHeartbeats 1000000 in
theorem rows_long1 (ao : Option Addr) (ca : Nat) (L : List Val) (bo : Option Addr) (cb : Nat) (M : List Val) (w : World) (h : (20 : Int) < (L.length : Int)) (ht : TabW w) :
    Calls Tryd.prog 4 #[.slice ao L.length ca, .slice bo M.length cb] w fun e w' => e = .returned (.bool true) ∧ Below w.heap.size w w' := by
  go_enter Tryd.func4, Tryd.ntmps4
  go_wp2_with fail
  refine (known_yes _ ht).mono ?_
  rintro e w1 ⟨rfl, hb1⟩
  clear ht
  go_wp2
  go_ret
  exact ⟨rfl, hb1⟩
set_option maxHeartbeats 1000000 in
theorem rows_long2 (ao : Option Addr) (ca : Nat) (L : List Val) (bo : Option Addr) (cb : Nat) (M : List Val) (w : World) (h1 : ¬ (20 : Int) < (L.length : Int)) (h : (20 : Int) < (M.length : Int)) (ht : TabW w) :
    Calls Tryd.prog 4 #[.slice ao L.length ca, .slice bo M.length cb] w fun e w' => e = .returned (.bool true) ∧ Below w.heap.size w w' := by
  go_enter Tryd.func4, Tryd.ntmps4
  go_wp2_with fail
  refine (known_yes _ ht).mono ?_
  rintro e w1 ⟨rfl, hb1⟩
  clear ht
  go_wp2
  go_ret
  exact ⟨rfl, hb1⟩

set_option maxHeartbeats 4000000 in
set_option maxRecDepth 100000 in
theorem rows_short (ao : Option Addr) (ca : Nat) (L : List Val) (bo : Option Addr) (cb : Nat) (M : List Val) (w : World) (ha : IsVals w ao L) (hal : ∀ v ∈ L, v.wide) (hb : IsVals w bo M) (hbl : ∀ v ∈ M, v.wide)
    (h1 : ¬ (20 : Int) < (L.length : Int)) (h2 : ¬ (20 : Int) < (M.length : Int)) (ht : TabW w) :
    Calls Tryd.prog 4 #[.slice ao L.length ca, .slice bo M.length cb] w fun e w' => e = .returned (.bool true) ∧ Below w.heap.size w w' := by
  obtain ⟨B, HB⟩ : ∃ B, Hid (w.heap.size = B) := ⟨_, rfl⟩
  have HV : Hid (IsVals w ao L) := ha
  have HU : Hid (IsVals w bo M) := hb
  have WV : Hid (∀ v ∈ L, v.wide) := hal
  have WU : Hid (∀ v ∈ M, v.wide) := hbl
  have HT : Hid (TabW w) := ht
  clear ha hb hal hbl ht
  go_enter Tryd.func4, Tryd.ntmps4
  go_wp2_with fail
  refine (known_yes _ HT.out).mono ?_
  rintro e w1 ⟨rfl, hb1⟩
  have b1 : Hid (Below B w w1) := by rw [← HB.out]; exact hb1
  clear hb1
  go_wp2_with fail
  go_loopw [5] (fun i wr => ∃ n : Nat, n ≤ L.length ∧ i = .int .i64 n ∧ Hid (∀ u ∈ L.take n, u.s.size ≤ 1100) ∧ Hid (Below B w wr)) (fun i _ => L.length - (intOf i).toNat)
  case atStart => exact ⟨0, Nat.zero_le _, rfl, fun u hu => by simp at hu, b1⟩
  case round =>
    obtain ⟨n, hn, rfl, HF, HW⟩ := hrel
    have HZ : Hid (B ≤ wr.heap.size) := by have := HW.out.size; have := HB.out; rw [Hid]; omega
    by_cases hlt : n < L.length
    · have hli : (n : Int) < (L.length : Int) := by omega
      obtain ⟨v, HG⟩ : ∃ v, Hid (L[n]? = some v) := ⟨_, List.getElem?_eq_getElem hlt⟩
      obtain ⟨b, o, rfl, c0, c1, c2⟩ := at_cells HV.out HB.out HW.out HG.out
      by_cases hs : (v.s.size : Int) ≤ 1100
      · have HF2 : Hid (∀ u ∈ L.take (n + 1), u.s.size ≤ 1100) := few_take HG.out HF.out (by omega)
        go_wp2_with fail
        refine (few_any _ _ _ _).mono ?_
        rintro e w2 ⟨rfl, hb2⟩
        have b2 : Hid (Below B w w2) := below_next HW.out hb2 HZ.out
        clear hb2
        go_wp2
        go_roundw
        case rel => exact ⟨n + 1, by omega, by go_num, HF2, b2⟩
        case measure => simp [intOf]; omega
      · have hs' : decide ((v.s.size : Int) ≤ 1100) = false := decide_eq_false hs
        clear hs
        go_wp2_with fail
        refine (few_any _ _ _ _).mono ?_
        rintro e w2 ⟨rfl, hb2⟩
        have b2 : Hid (Below B w w2) := below_next HW.out hb2 HZ.out
        clear hb2
        go_wp2
        go_ret
        refine ⟨rfl, ?_⟩
        rw [HB.out]
        exact b2.out
    · have hli : ¬ (n : Int) < (L.length : Int) := by omega
      have KV : Hid (∀ v ∈ L, v.ok) := few_ok WV.out (by omega) HF.out
      obtain ⟨w5, hw5⟩ : ∃ w5, w5 = wr := ⟨_, rfl⟩
      rw [← hw5] at HW HZ ⊢
      clear hw5 HF b1
      go_wp2_with fail
      clear hli hlt hn
      go_loopw [6] (fun i wr => ∃ n : Nat, n ≤ M.length ∧ i = .int .i64 n ∧ Hid (∀ u ∈ M.take n, u.s.size ≤ 1100) ∧ Hid (Below B w wr)) (fun i _ => M.length - (intOf i).toNat)
      case atStart => exact ⟨0, Nat.zero_le _, rfl, fun u hu => by simp at hu, HW⟩
      case round =>
        obtain ⟨n, hn, rfl, HF, HW⟩ := hrel
        have HZ : Hid (B ≤ wr.heap.size) := by have := HW.out.size; have := HB.out; rw [Hid]; omega
        by_cases hlt : n < M.length
        · have hli : (n : Int) < (M.length : Int) := by omega
          obtain ⟨v, HG⟩ : ∃ v, Hid (M[n]? = some v) := ⟨_, List.getElem?_eq_getElem hlt⟩
          obtain ⟨b, o, rfl, c0, c1, c2⟩ := at_cells HU.out HB.out HW.out HG.out
          by_cases hs : (v.s.size : Int) ≤ 1100
          · have HF2 : Hid (∀ u ∈ M.take (n + 1), u.s.size ≤ 1100) := few_take HG.out HF.out (by omega)
            go_wp2_with fail
            refine (few_any _ _ _ _).mono ?_
            rintro e w2 ⟨rfl, hb2⟩
            have b2 : Hid (Below B w w2) := below_next HW.out hb2 HZ.out
            clear hb2
            go_wp2
            go_roundw
            case rel => exact ⟨n + 1, by omega, by go_num, HF2, b2⟩
            case measure => simp [intOf]; omega
          · have hs' : decide ((v.s.size : Int) ≤ 1100) = false := decide_eq_false hs
            clear hs
            go_wp2_with fail
            refine (few_any _ _ _ _).mono ?_
            rintro e w2 ⟨rfl, hb2⟩
            have b2 : Hid (Below B w w2) := below_next HW.out hb2 HZ.out
            clear hb2
            go_wp2
            go_ret
            refine ⟨rfl, ?_⟩
            rw [HB.out]
            exact b2.out
        · have hli : ¬ (n : Int) < (M.length : Int) := by omega
          have KU : Hid (∀ v ∈ M, v.ok) := few_ok WU.out (by omega) HF.out
          have len1 : Hid (L.length ≤ 100) := by rw [Hid]; omega
          have len2 : Hid (M.length ≤ 100) := by rw [Hid]; omega
          have bw : Hid (Below w.heap.size w wr) := by rw [HB.out]; exact HW.out
          have I1 : Hid (IsVals wr ao L) := HV.out.next bw.out
          have I2 : Hid (IsVals wr bo M) := HU.out.next bw.out
          have T0 : Hid (TabW wr) := tab_next HT.out bw.out
          obtain ⟨X, HX⟩ : ∃ X, Hid (hashS L = X) := ⟨_, rfl⟩
          obtain ⟨Y, HY⟩ : ∃ Y, Hid (hashS M = Y) := ⟨_, rfl⟩
          obtain ⟨rb, HR⟩ : ∃ rb, Hid (rowsB L M = rb) := ⟨_, rfl⟩
          have hxy : (X.toList == Y.toList) = rb := by rw [← HX.out, ← HY.out, ← HR.out]; exact hash_rows L M
          go_wp2_with fail
          refine (hash_at ao ca L X _ HX.out I1.out KV.out len1.out T0.out).mono ?_
          rintro e w6 ⟨rfl, hb6⟩
          have B6 : Hid (Below B w w6) := below_next HW.out hb6 HZ.out
          have Z6 : Hid (B ≤ w6.heap.size) := le_next HZ.out hb6
          have J1 : Hid (IsVals w6 ao L) := I1.out.next hb6
          have J2 : Hid (IsVals w6 bo M) := I2.out.next hb6
          have T6 : Hid (TabW w6) := tab_next T0.out hb6
          clear hb6
          go_wp2_with fail
          refine (hash_at bo cb M Y _ HY.out J2.out KU.out len2.out T6.out).mono ?_
          rintro e w7 ⟨rfl, hb7⟩
          have B7 : Hid (Below B w w7) := below_next B6.out hb7 Z6.out
          have Z7 : Hid (B ≤ w7.heap.size) := le_next Z6.out hb7
          have N1 : Hid (IsVals w7 ao L) := J1.out.next hb7
          have N2 : Hid (IsVals w7 bo M) := J2.out.next hb7
          clear hb7
          go_wp2_with fail
          refine (rows_at ao bo ca cb L M rb _ HR.out N1.out N2.out len1.out).mono ?_
          rintro e w8 ⟨rfl, hb8⟩
          have B8 : Hid (Below B w w8) := below_next B7.out hb8 Z7.out
          clear hb8
          go_wp2
          go_ret
          refine ⟨ret_b (by simp), ?_⟩
          rw [HB.out]
          exact B8.out

theorem rows_walk (ao : Option Addr) (ca : Nat) (L : List Val) (bo : Option Addr) (cb : Nat) (M : List Val) (w : World) (ha : IsVals w ao L) (hal : ∀ v ∈ L, v.wide) (hb : IsVals w bo M) (hbl : ∀ v ∈ M, v.wide) (ht : TabW w) :
    Calls Tryd.prog 4 #[.slice ao L.length ca, .slice bo M.length cb] w fun e w' => e = .returned (.bool true) ∧ Below w.heap.size w w' := by
  by_cases h1 : (20 : Int) < (L.length : Int)
  · exact rows_long1 ao ca L bo cb M w h1 ht
  · by_cases h2 : (20 : Int) < (M.length : Int)
    · exact rows_long2 ao ca L bo cb M w h1 h2 ht
    · exact rows_short ao ca L bo cb M w ha hal hb hbl h1 h2 ht
end Go.Proofs.YtinbnhjpgjagoaaDoor
