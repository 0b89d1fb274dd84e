/- Contracts of package built's texts: plainText, join, joinedSymbol, joinedString, lengthOf, typeOf. -/
import Derived.Test.YtfglmfldpmpofaaDoorBtBld
import Derived.Test.YtfglmfldpmpofaaDoorBtAnsN
import Derived.Test.YtfglmfldpmpofaaDoorValText
import Derived.Test.YtfglmfldpmpofaaDoorValRight2
namespace Go.Proofs.YtfglmfldpmpofaaDoor
open Go.RowKit

theorem right_bd {v : Val} (h : rightV v) : v.s.size ≤ 1000 := by
  obtain ⟨hr, _⟩ := h
  rcases right_kind hr with h1 | h2 | h3
  · rw [h1, right_int, decide_eq_true_eq] at hr; omega
  · rw [h2, right_sym, Bool.and_eq_true] at hr
    have h4 := hr.2
    unfold symB at h4
    rw [Bool.and_eq_true, decide_eq_true_eq] at h4
    omega
  · rw [h3, right_str, decide_eq_true_eq] at hr
    exact hr.2
theorem plain_3 (i : Int) (s : ByteArray) : (⟨(plainL ⟨3, i, s⟩).toArray⟩ : ByteArray) = s := rfl
theorem plain_text {k i : Int} {s : ByteArray} (h3 : k ≠ 3) (hk : k = 1 ∨ k = 2 ∨ k = 3) : textS k i s = ⟨(plainL ⟨k, i, s⟩).toArray⟩ := by
  rcases hk with rfl | rfl | rfl
  · rfl
  · rfl
  · exact absurd rfl h3

set_option maxRecDepth 4000 in
theorem plain_any (k i : Int) (s X : ByteArray) (w : World) (hk : k = 1 ∨ k = 2 ∨ k = 3) (hs : s.size ≤ 1000) (hi : inB i = true) (ht : TabW w) (hX : X = ⟨(plainL ⟨k, i, s⟩).toArray⟩) :
    Calls Tryd.prog 58 #[.agg #[.int .i64 (k), .int .i64 (i), .string (s)]] w fun e w' => e = .returned (.string X) ∧ Below w.heap.size w w' := by
  by_cases h3 : k = 3
  · subst h3
    rw [hX, plain_3]
    clear hX hk hi ht
    go_enter Tryd.func58, Tryd.ntmps58
    go_wp2
    go_ret
    exact ⟨rfl, alloc_below' _ _⟩
  · rw [hX, ← plain_text h3 hk]
    have d3 : (k == 3) = false := by simpa using h3
    have HT : Hid (TabW (w.alloc (.cells #[.int .i64 k, .int .i64 i, .string s] 26))) := tab_alloc ht
    have HI : Hid (inB i = true) := hi
    clear hX h3 hk ht hi
    go_enter Tryd.func58, Tryd.ntmps58
    go_wp2_with fail
    refine (text_val k i s _ (by omega) HI.out HT.out).mono ?_
    rintro e w1 ⟨rfl, hb⟩
    go_wp2
    go_ret
    exact ⟨rfl, next_trans' (alloc_below' _ _) hb⟩

/-- What join tells. -/
def joinR (L : List Val) (m : Nat) : ByteArray × Int := if m < (catL L).length then (⟨#[]⟩, 4) else (catS L, 0)
theorem ret_se {s s' : ByteArray} {e e' : Int} (h : (s, e) = (s', e')) : Ending.returned (.tuple #[.string s, .int .i64 e]) = .returned (.tuple #[.string s', .int .i64 e']) := by
  obtain ⟨rfl, rfl⟩ := Prod.mk.inj h; rfl
theorem right_get {L : List Val} (h : ∀ v ∈ L, rightV v) {n : Nat} {v : Val} (hn : L[n]? = some v) : rightV v := h v (List.mem_of_getElem? hn)

set_option maxHeartbeats 2000000 in
set_option maxRecDepth 4000 in
theorem join_any (ao : Option Addr) (cap N m : Nat) (M : Int) (L : List Val) (X : ByteArray) (e0 : Int) (w : World) (hM : M = (m : Int)) (hm : m ≤ 1000) (hN : L.length = N) (hn : N ≤ 100) (hv : IsVals w ao L) (hR : ∀ v ∈ L, rightV v) (ht : TabW w) (hj : joinR L m = (X, e0)) :
    Calls Tryd.prog 45 #[.slice ao N cap, .int .i64 M] w fun e w' => e = .returned (.tuple #[.string X, .int .i64 e0]) ∧ Below w.heap.size w w' := by
  subst hM
  obtain ⟨B, HB⟩ : ∃ B, Hid (w.heap.size = B) := ⟨_, rfl⟩
  have HV : Hid (IsVals w ao L) := hv
  have HR : Hid (∀ v ∈ L, rightV v) := hR
  have HN : Hid (L.length = N) := hN
  have HT : Hid (TabW w) := ht
  have HJ : Hid (joinR L m = (X, e0)) := hj
  have hbw : Hid (Bld B B [] (w.alloc (.cells #[.pointer none, .slice none 0 0] 71))) := by
    rw [Hid, ← HB.out]; exact Lib.fresh_isBuilder _ _ w
  have hb0 : Hid (Below B w (w.alloc (.cells #[.pointer none, .slice none 0 0] 71))) := (Below.refl _ _).alloc (by rw [HB.out]; exact Nat.le_refl _) _
  clear hv hR hN ht hj
  go_enter Tryd.func45, Tryd.ntmps45
  go_wp2_with fail
  rw [HB.out]
  go_loopw [12] (fun i wr => ∃ k : Nat, k ≤ N ∧ i = .int .i64 k ∧ Hid (Bld B B (catL (L.take k)) wr) ∧ Hid (Below B w wr) ∧ Hid ((catL (L.take k)).length ≤ m)) (fun i _ => N - (intOf i).toNat)
  case atStart => exact ⟨0, Nat.zero_le _, rfl, hbw, hb0, Nat.zero_le _⟩
  case round =>
    obtain ⟨k, hk, rfl, HQ, HW, HL⟩ := hrel
    have HZ : Hid (B ≤ wr.heap.size) := by have := HW.out.size; have := HB.out; rw [Hid]; omega
    clear hbw hb0
    by_cases hlt : k < N
    · have hki : (k : Int) < (N : Int) := by omega
      obtain ⟨v, HG⟩ : ∃ v, Hid (L[k]? = some v) := ⟨_, List.getElem?_eq_getElem (by rw [HN.out]; exact hlt)⟩
      obtain ⟨b, o, rfl, c0, c1, c2⟩ := at_cells HV.out HB.out HW.out HG.out
      have Hrv : Hid (rightV v) := right_get HR.out HG.out
      have HT2 : Hid (TabW wr) := tab_from HT.out HW.out (by rw [HB.out]; exact Nat.le_refl _)
      obtain ⟨T, HTx⟩ : ∃ T : ByteArray, Hid (T = ⟨(plainL v).toArray⟩) := ⟨_, rfl⟩
      have HTs : Hid (T.size = (plainL v).length) := by rw [Hid, HTx.out]; rfl
      obtain ⟨n, Hn⟩ : ∃ n : Int, Hid (n = ((catL (L.take k)).length : Int)) := ⟨_, rfl⟩
      have hn0 : 0 ≤ n := by rw [Hn.out]; omega
      have hn1 : n ≤ (m : Int) := by rw [Hn.out]; have := HL.out; omega
      have ht1 : T.size ≤ 1000 := by rw [HTs.out]; exact plainL_len Hrv.out
      obtain ⟨vk, vi, vs⟩ := v
      go_wp2_with fail
      refine (plain_any vk vi vs T _ (right_kind Hrv.out.1) (right_bd Hrv.out) Hrv.out.2 (tab_alloc HT2.out) HTx.out).mono ?_
      rintro e w1 ⟨rfl, hb1⟩
      have HQ1 : Hid (Bld B B (catL (L.take k)) w1) := HQ.out.keep (next_trans' (alloc_below' _ _) hb1)
      have HW1 : Hid (Below B w w1) := below_next (below_alloc HW.out HZ.out) hb1 (le_alloc HZ.out)
      have HZ1 : Hid (B ≤ w1.heap.size) := by have := HW1.out.size; have := HB.out; rw [Hid]; omega
      clear hb1
      go_wp2_with fail
      refine (blen_any B B _ n _ HQ1.out Hn.out).mono ?_
      rintro e w2 ⟨rfl, rfl⟩
      by_cases hx : (m : Int) - n < (T.size : Int)
      · have HE : Hid (((⟨#[]⟩ : ByteArray), (4 : Int)) = (X, e0)) := by
          have h := HJ.out
          unfold joinR at h
          rw [if_pos] at h
          · exact h
          · have h2 := catL_le L (k + 1)
            rw [catL_take L k _ HG.out, List.length_append] at h2
            have := HTs.out; have := Hn.out
            omega
        go_wp2
        go_ret2
        refine ⟨ret_se HE.out, ?_⟩
        rw [HB.out]; exact HW1.out
      · have HL2 : Hid ((catL (L.take (k + 1))).length ≤ m) := by
          rw [Hid, catL_take L k _ HG.out, List.length_append]
          have := HTs.out; have := Hn.out
          omega
        have Hs : Hid ((catL (L.take k)).length + (plainL ⟨vk, vi, vs⟩).length ≤ 1000000) := by
          have := HTs.out; have := HL.out; rw [Hid]; omega
        go_wp2_with fail
        refine (bwrite_str B B _ (plainL ⟨vk, vi, vs⟩) T HTx.out _ HQ1.out Hs.out HZ1.out).mono ?_
        rintro e w3 ⟨⟨_, rfl⟩, hq3, hb3⟩
        have HQ3 : Hid (Bld B B (catL (L.take (k + 1))) w3) := by rw [Hid, catL_take L k _ HG.out]; exact hq3
        have HW3 : Hid (Below B w w3) := HW1.out.trans hb3
        clear hq3 hb3
        go_wp2
        go_roundw
        case rel => exact ⟨k + 1, by omega, by go_num, HQ3, HW3, HL2⟩
        case measure => simp [intOf]; omega
    · have hki : ¬ (k : Int) < (N : Int) := by omega
      have HE : Hid ((catS L, (0 : Int)) = (X, e0)) := by
        have h := HJ.out
        have h2 := HL.out
        rw [List.take_of_length_le (by rw [HN.out]; omega)] at h2
        unfold joinR at h
        rw [if_neg (by omega)] at h
        exact h
      have HQ2 : Hid (Bld B B (catL L) wr) := by
        have h2 := HQ.out
        rw [List.take_of_length_le (by rw [HN.out]; omega)] at h2
        exact h2
      go_wp2_with fail
      refine (str_any B B _ _ HQ2.out HZ.out).mono ?_
      rintro e w3 ⟨rfl, hb3⟩
      go_wp2
      go_ret2
      refine ⟨ret_se HE.out, ?_⟩
      rw [HB.out]; exact HW.out.trans hb3
end Go.Proofs.YtfglmfldpmpofaaDoor
