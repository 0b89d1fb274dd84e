/- The contract of the reference's numbers. -/
import Derived.Test.YtfglmfldpmpofaaDoorBtRow
import Derived.Deep.RegionWith
namespace Go.Proofs.YtfglmfldpmpofaaDoor
open Go.RowKit

/-- What a sum is told as. -/
def sumR (p : Int × Int) : Val × Int := if p.2 = 0 then (⟨1, p.1, ⟨#[]⟩⟩, 0) else (none0, p.2)
theorem numbers_sum {c : Nat} {L : List Val} (h1 : allInt L = true) (h2 : cmpC c = false) : numbersR c L = sumR (numR c (numsV L)) := by
  unfold numbersR sumR
  rw [if_pos h1, if_neg (by rw [h2]; decide)]
theorem sumR_yes (m : Int) : sumR (m, 0) = (⟨1, m, ⟨#[]⟩⟩, 0) := rfl
theorem sumR_no {m e : Int} (h : e ≠ 0) : sumR (m, e) = (⟨0, 0, ⟨#[]⟩⟩, e) := by unfold sumR; rw [if_neg h]; rfl
/-- The result's box, as it lay. -/
def Box0 (B : Nat) (w : World) : Prop := (w.cell? ⟨B, 0, none⟩ = some (.int .i64 0) ∧ w.cell? ⟨B, 1, none⟩ = some (.int .i64 0) ∧ w.cell? ⟨B, 2, none⟩ = some (.string ⟨#[]⟩)) ∧ (∀ j, w.frozen? ⟨B, j, none⟩ = false)
theorem Box0.next {B : Nat} {w w' : World} (h : Box0 B w) (hb : Below w.heap.size w w') : Box0 B w' := box3_next h hb
theorem Box0.made {B : Nat} {w : World} (hB : w.heap.size = B) : Box0 B (w.alloc (.cells #[.int .i64 0, .int .i64 0, .string ⟨#[]⟩] 26)) := box3 hB (Below.refl _ _)
theorem Box0.lt {B : Nat} {w : World} (h : Box0 B w) : B < w.heap.size := World.block_lt_of_cell? _ _ h.1.1
theorem Box0.grown {B : Nat} {w w' : World} {row : Option Nat} (h : Box0 B w) (hg : w.grownBy w' row) (hr : some B ≠ row) : Box0 B w' := by
  have hl := h.lt
  obtain ⟨⟨h0, h1, h2⟩, hf⟩ := h
  have e := hg.block B hl hr
  exact ⟨⟨by rw [World.cell?_of_block (w := w) e]; exact h0, by rw [World.cell?_of_block (w := w) e]; exact h1, by rw [World.cell?_of_block (w := w) e]; exact h2⟩, fun j => by rw [World.frozen?_of_block (w := w) e]; exact hf j⟩
theorem vals_in {L : List Val} (h : ∀ v ∈ L, inB v.i = true) {n : Nat} {v : Val} (hn : L[n]? = some v) : inB v.i = true := h v (List.mem_of_getElem? hn)
theorem lit_own (w : World) (B : Nat) (v : Val) (hB : B ≤ w.heap.size) : (w.alloc (.cells #[.int .i64 v.k, .int .i64 v.i, .string v.s] 26)).ownsRow B 26 3 (.slice (some ⟨w.heap.size, 0, none⟩) 1 1) 1 (valsC [v]) :=
  World.ownsRow_lit (size := 3) w #[.int .i64 v.k, .int .i64 v.i, .string v.s] 1 hB (by unfold maxLen; omega) rfl
theorem lit_vals2 (w : World) (b : Nat) (v u : Val) (hb : b = w.heap.size) : IsVals (w.alloc (.cells #[.int .i64 v.k, .int .i64 v.i, .string v.s, .int .i64 u.k, .int .i64 u.i, .string u.s] 26)) (some ⟨b, 0, none⟩) [v, u] := by
  intro j t hj
  match j, hj with
  | 0, hj => simp at hj; subst hj; exact ⟨b, 0, rfl, box_cell hb rfl, box_cell hb rfl, box_cell hb rfl⟩
  | 1, hj => simp at hj; subst hj; exact ⟨b, 0, rfl, box_cell hb rfl, box_cell hb rfl, box_cell hb rfl⟩

set_option maxHeartbeats 4000000 in
set_option maxRecDepth 4000 in
theorem rnums_6 (k i e0 : Int) (t : ByteArray) (ao : Option Addr) (cap N B : Nat) (L : List Val) (w : World) (hB : w.heap.size = B) (hN : L.length = N) (hv : IsVals w ao L) (hm : N ≤ 1000) (h2 : 2 ≤ N) (hA : allInt L = true) (hr : numbersR 6 L = (⟨k, i, t⟩, e0)) :
    Calls Tryd.prog 30 #[.string ⟨#[61]⟩, .slice ao N cap] w fun e w' => e = .returned (.tuple #[.agg #[.int .i64 (k), .int .i64 (i), .string (t)], .int .i64 e0]) ∧ Below B w w' := by
  have HB : Hid (w.heap.size = B) := hB
  have HV : Hid (IsVals (w.alloc (.cells #[.int .i64 0, .int .i64 0, .string ⟨#[]⟩] 26)) ao L) := hv.next (alloc_below' _ _)
  have HN : Hid (L.length = N) := hN
  have HX0 : Hid (Box0 B (w.alloc (.cells #[.int .i64 0, .int .i64 0, .string ⟨#[]⟩] 26))) := Box0.made hB
  have HW0 : Hid (Below B w (w.alloc (.cells #[.int .i64 0, .int .i64 0, .string ⟨#[]⟩] 26))) := by rw [Hid, ← hB]; exact alloc_below' _ _
  clear hv hN hB
  have HX : Hid (numbersR 6 L = (⟨k, i, t⟩, e0)) := hr
  clear hr
  go_enter Tryd.func30, Tryd.ntmps30
  go_wp2
  rw [HB.out]
  obtain ⟨W, HWe⟩ : ∃ W, W = (w.alloc (.cells #[.int .i64 0, .int .i64 0, .string ⟨#[]⟩] 26)) := ⟨_, rfl⟩
  rw [← HWe] at HV HX0 HW0 ⊢
  clear HWe
  go_loop [6] (fun i => ∃ k : Nat, k ≤ N ∧ i = .int .i64 k ∧ Hid (allInt (L.take k) = true)) (fun i => N - (intOf i).toNat)
  case atStart => exact ⟨0, Nat.zero_le _, rfl, rfl⟩
  case round =>
    obtain ⟨n, hn, rfl, HA⟩ := hrel
    by_cases hlt : n < N
    · have hki : (n : Int) < (N : Int) := by omega
      obtain ⟨v, HG⟩ : ∃ v, Hid (L[n]? = some v) := ⟨_, List.getElem?_eq_getElem (by rw [HN.out]; exact hlt)⟩
      obtain ⟨b, o, rfl, c0, c1, c2⟩ := HV.out n v HG.out
      by_cases h1 : v.k = 1
      · have HA2 : Hid (allInt (L.take (n + 1)) = true) := by rw [Hid, allInt_take HG.out, HA.out, decide_eq_true h1]; rfl
        have d1 : (v.k != 1) = false := by simpa using h1
        clear h1
        go_wp2
        go_round
        case rel => exact ⟨n + 1, by omega, by go_num, HA2⟩
        case measure => simp [intOf]; omega
      · have HA2 : allInt L = false := allInt_no (n := n + 1) (by rw [allInt_take HG.out, decide_eq_false h1]; simp)
        exact absurd (hA.symm.trans HA2) (by decide)
    · have hki : ¬ (n : Int) < (N : Int) := by omega
      clear hlt hn HA
      go_wp2
      go_loopw [7, 8] (fun x y wr => ∃ (j : Nat) (q : Bool), j + 1 ≤ N ∧ y = .int .i64 ((j : Int) + 1) ∧ x = .bool q ∧ Hid (SameW W wr) ∧ Hid (chainB 6 ((numsV L).take (j + 1)) = q)) (fun _ y _ => N - (intOf y).toNat)
      case atStart =>
        refine ⟨0, true, by omega, rfl, rfl, SameW.refl _, ?_⟩
        rw [Hid]
        cases e : numsV L with
        | nil => rfl
        | cons a r => rfl
      case round =>
        obtain ⟨j, q, hj, rfl, rfl, HS, HT⟩ := hrel
        by_cases hlt : j + 1 < N
        · have hki : (j : Int) + 1 < (N : Int) := by omega
          have hk0 : (0 : Int) ≤ (j : Int) := by omega
          have hkn : (j : Int) < (N : Int) := by omega
          obtain ⟨x, HGx⟩ : ∃ v, Hid (L[j]? = some v) := ⟨_, List.getElem?_eq_getElem (by rw [HN.out]; omega)⟩
          obtain ⟨y, HGy⟩ : ∃ v, Hid (L[j + 1]? = some v) := ⟨_, List.getElem?_eq_getElem (by rw [HN.out]; omega)⟩
          obtain ⟨b, o, rfl, c0, c1, c2⟩ := (HV.out.next (HS.out.below _)) j x HGx.out
          obtain ⟨b', o', hbo, e0', e1, e2⟩ := (HV.out.next (HS.out.below _)) (j + 1) y HGy.out
          obtain ⟨rfl, rfl⟩ : b' = b ∧ o' = o := by injection hbo with h; injection h with h1 h2; exact ⟨h1.symm, h2.symm⟩
          obtain ⟨z, HZ⟩ : ∃ z, Hid (standB 6 x.i y.i = z) := ⟨_, rfl⟩
          have HT2 : Hid (chainB 6 ((numsV L).take (j + 2)) = (q && z)) := by rw [Hid, chain_take _ _ j x.i y.i (numsV_get HGx.out) (numsV_get HGy.out), HT.out, HZ.out]
          clear hbo e0' e2 c0 c2
          cases q
          · go_wp2
            go_quiet (fail)
            go_wp2
            go_roundw
            case rel => exact ⟨j + 1, _, by omega, by go_num, rfl, HS.out.drewN _, HT2⟩
            case measure => simp [intOf]; omega
          · go_wp2
            go_quiet ((go_at_call 40; exact Calls.quiet_of_same (holds_any ⟨#[61]⟩ x.i y.i z _ (by decide) HZ.out)))
            go_wp2
            go_roundw
            case rel => exact ⟨j + 1, z, by omega, by go_num, rfl, HS.out.drewN _, HT2⟩
            case measure => simp [intOf]; omega
        · have hki : ¬ (j : Int) + 1 < (N : Int) := by omega
          have HE : Hid (((⟨2, 0, boolS q⟩ : Val), (0 : Int)) = (⟨k, i, t⟩, e0)) := by
            have h2 := HT.out
            rw [List.take_of_length_le (by rw [numsV_len, HN.out]; omega)] at h2
            have h := HX.out
            unfold numbersR at h
            rw [if_pos hA, if_pos (by decide), h2] at h
            exact h
          have HC2 := HX0.out.next (HS.out.below _)
          have b2 : Hid (Below B w wr) := HW0.out.trans (HS.out.below _)
          have z1 : Hid (B ≤ wr.heap.size) := Nat.le_of_lt HC2.lt
          go_wp2_with fail
          refine (rbool_any q _).mono ?_
          rintro e w3 ⟨rfl, hb3⟩
          obtain ⟨⟨p0, p1, p2⟩, pf⟩ := HC2.next hb3
          have b3 : Hid (Below B w w3) := below_next b2.out hb3 z1.out
          clear hb3 b2 HC2 z1
          go_wp2
          refine bodyPost_ret (v := .tuple #[.agg #[.int .i64 (2), .int .i64 (0), .string (boolS q)], .int .i64 0]) (by simp [results, Tryd.results30, go_sem, *]) rfl ⟨ret_ve HE.out, ?_⟩
          exact set3 b3.out _ _ _

set_option maxHeartbeats 4000000 in
set_option maxRecDepth 4000 in
theorem rnums_5 (k i e0 : Int) (t : ByteArray) (ao : Option Addr) (cap N B : Nat) (L : List Val) (w : World) (hB : w.heap.size = B) (hN : L.length = N) (hv : IsVals w ao L) (hm : N ≤ 1000) (h2 : 2 ≤ N) (hA : allInt L = true) (hr : numbersR 5 L = (⟨k, i, t⟩, e0)) :
    Calls Tryd.prog 30 #[.string ⟨#[60, 62]⟩, .slice ao N cap] w fun e w' => e = .returned (.tuple #[.agg #[.int .i64 (k), .int .i64 (i), .string (t)], .int .i64 e0]) ∧ Below B w w' := by
  have HB : Hid (w.heap.size = B) := hB
  have HV : Hid (IsVals (w.alloc (.cells #[.int .i64 0, .int .i64 0, .string ⟨#[]⟩] 26)) ao L) := hv.next (alloc_below' _ _)
  have HN : Hid (L.length = N) := hN
  have HX0 : Hid (Box0 B (w.alloc (.cells #[.int .i64 0, .int .i64 0, .string ⟨#[]⟩] 26))) := Box0.made hB
  have HW0 : Hid (Below B w (w.alloc (.cells #[.int .i64 0, .int .i64 0, .string ⟨#[]⟩] 26))) := by rw [Hid, ← hB]; exact alloc_below' _ _
  clear hv hN hB
  have HX : Hid (numbersR 5 L = (⟨k, i, t⟩, e0)) := hr
  clear hr
  go_enter Tryd.func30, Tryd.ntmps30
  go_wp2
  rw [HB.out]
  obtain ⟨W, HWe⟩ : ∃ W, W = (w.alloc (.cells #[.int .i64 0, .int .i64 0, .string ⟨#[]⟩] 26)) := ⟨_, rfl⟩
  rw [← HWe] at HV HX0 HW0 ⊢
  clear HWe
  go_loop [6] (fun i => ∃ k : Nat, k ≤ N ∧ i = .int .i64 k ∧ Hid (allInt (L.take k) = true)) (fun i => N - (intOf i).toNat)
  case atStart => exact ⟨0, Nat.zero_le _, rfl, rfl⟩
  case round =>
    obtain ⟨n, hn, rfl, HA⟩ := hrel
    by_cases hlt : n < N
    · have hki : (n : Int) < (N : Int) := by omega
      obtain ⟨v, HG⟩ : ∃ v, Hid (L[n]? = some v) := ⟨_, List.getElem?_eq_getElem (by rw [HN.out]; exact hlt)⟩
      obtain ⟨b, o, rfl, c0, c1, c2⟩ := HV.out n v HG.out
      by_cases h1 : v.k = 1
      · have HA2 : Hid (allInt (L.take (n + 1)) = true) := by rw [Hid, allInt_take HG.out, HA.out, decide_eq_true h1]; rfl
        have d1 : (v.k != 1) = false := by simpa using h1
        clear h1
        go_wp2
        go_round
        case rel => exact ⟨n + 1, by omega, by go_num, HA2⟩
        case measure => simp [intOf]; omega
      · have HA2 : allInt L = false := allInt_no (n := n + 1) (by rw [allInt_take HG.out, decide_eq_false h1]; simp)
        exact absurd (hA.symm.trans HA2) (by decide)
    · have hki : ¬ (n : Int) < (N : Int) := by omega
      clear hlt hn HA
      go_wp2
      go_loopw [7, 8] (fun x y wr => ∃ (j : Nat) (q : Bool), j + 1 ≤ N ∧ y = .int .i64 ((j : Int) + 1) ∧ x = .bool q ∧ Hid (SameW W wr) ∧ Hid (chainB 5 ((numsV L).take (j + 1)) = q)) (fun _ y _ => N - (intOf y).toNat)
      case atStart =>
        refine ⟨0, true, by omega, rfl, rfl, SameW.refl _, ?_⟩
        rw [Hid]
        cases e : numsV L with
        | nil => rfl
        | cons a r => rfl
      case round =>
        obtain ⟨j, q, hj, rfl, rfl, HS, HT⟩ := hrel
        by_cases hlt : j + 1 < N
        · have hki : (j : Int) + 1 < (N : Int) := by omega
          have hk0 : (0 : Int) ≤ (j : Int) := by omega
          have hkn : (j : Int) < (N : Int) := by omega
          obtain ⟨x, HGx⟩ : ∃ v, Hid (L[j]? = some v) := ⟨_, List.getElem?_eq_getElem (by rw [HN.out]; omega)⟩
          obtain ⟨y, HGy⟩ : ∃ v, Hid (L[j + 1]? = some v) := ⟨_, List.getElem?_eq_getElem (by rw [HN.out]; omega)⟩
          obtain ⟨b, o, rfl, c0, c1, c2⟩ := (HV.out.next (HS.out.below _)) j x HGx.out
          obtain ⟨b', o', hbo, e0', e1, e2⟩ := (HV.out.next (HS.out.below _)) (j + 1) y HGy.out
          obtain ⟨rfl, rfl⟩ : b' = b ∧ o' = o := by injection hbo with h; injection h with h1 h2; exact ⟨h1.symm, h2.symm⟩
          obtain ⟨z, HZ⟩ : ∃ z, Hid (standB 5 x.i y.i = z) := ⟨_, rfl⟩
          have HT2 : Hid (chainB 5 ((numsV L).take (j + 2)) = (q && z)) := by rw [Hid, chain_take _ _ j x.i y.i (numsV_get HGx.out) (numsV_get HGy.out), HT.out, HZ.out]
          clear hbo e0' e2 c0 c2
          cases q
          · go_wp2
            go_quiet (fail)
            go_wp2
            go_roundw
            case rel => exact ⟨j + 1, _, by omega, by go_num, rfl, HS.out.drewN _, HT2⟩
            case measure => simp [intOf]; omega
          · go_wp2
            go_quiet ((go_at_call 40; exact Calls.quiet_of_same (holds_any ⟨#[60, 62]⟩ x.i y.i z _ (by decide) HZ.out)))
            go_wp2
            go_roundw
            case rel => exact ⟨j + 1, z, by omega, by go_num, rfl, HS.out.drewN _, HT2⟩
            case measure => simp [intOf]; omega
        · have hki : ¬ (j : Int) + 1 < (N : Int) := by omega
          have HE : Hid (((⟨2, 0, boolS q⟩ : Val), (0 : Int)) = (⟨k, i, t⟩, e0)) := by
            have h2 := HT.out
            rw [List.take_of_length_le (by rw [numsV_len, HN.out]; omega)] at h2
            have h := HX.out
            unfold numbersR at h
            rw [if_pos hA, if_pos (by decide), h2] at h
            exact h
          have HC2 := HX0.out.next (HS.out.below _)
          have b2 : Hid (Below B w wr) := HW0.out.trans (HS.out.below _)
          have z1 : Hid (B ≤ wr.heap.size) := Nat.le_of_lt HC2.lt
          go_wp2_with fail
          refine (rbool_any q _).mono ?_
          rintro e w3 ⟨rfl, hb3⟩
          obtain ⟨⟨p0, p1, p2⟩, pf⟩ := HC2.next hb3
          have b3 : Hid (Below B w w3) := below_next b2.out hb3 z1.out
          clear hb3 b2 HC2 z1
          go_wp2
          refine bodyPost_ret (v := .tuple #[.agg #[.int .i64 (2), .int .i64 (0), .string (boolS q)], .int .i64 0]) (by simp [results, Tryd.results30, go_sem, *]) rfl ⟨ret_ve HE.out, ?_⟩
          exact set3 b3.out _ _ _

set_option maxHeartbeats 4000000 in
set_option maxRecDepth 4000 in
theorem rnums_3 (k i e0 : Int) (t : ByteArray) (ao : Option Addr) (cap N B : Nat) (L : List Val) (w : World) (hB : w.heap.size = B) (hN : L.length = N) (hv : IsVals w ao L) (hm : N ≤ 1000) (h2 : 2 ≤ N) (hA : allInt L = true) (hr : numbersR 3 L = (⟨k, i, t⟩, e0)) :
    Calls Tryd.prog 30 #[.string ⟨#[60]⟩, .slice ao N cap] w fun e w' => e = .returned (.tuple #[.agg #[.int .i64 (k), .int .i64 (i), .string (t)], .int .i64 e0]) ∧ Below B w w' := by
  have HB : Hid (w.heap.size = B) := hB
  have HV : Hid (IsVals (w.alloc (.cells #[.int .i64 0, .int .i64 0, .string ⟨#[]⟩] 26)) ao L) := hv.next (alloc_below' _ _)
  have HN : Hid (L.length = N) := hN
  have HX0 : Hid (Box0 B (w.alloc (.cells #[.int .i64 0, .int .i64 0, .string ⟨#[]⟩] 26))) := Box0.made hB
  have HW0 : Hid (Below B w (w.alloc (.cells #[.int .i64 0, .int .i64 0, .string ⟨#[]⟩] 26))) := by rw [Hid, ← hB]; exact alloc_below' _ _
  clear hv hN hB
  have HX : Hid (numbersR 3 L = (⟨k, i, t⟩, e0)) := hr
  clear hr
  go_enter Tryd.func30, Tryd.ntmps30
  go_wp2
  rw [HB.out]
  obtain ⟨W, HWe⟩ : ∃ W, W = (w.alloc (.cells #[.int .i64 0, .int .i64 0, .string ⟨#[]⟩] 26)) := ⟨_, rfl⟩
  rw [← HWe] at HV HX0 HW0 ⊢
  clear HWe
  go_loop [6] (fun i => ∃ k : Nat, k ≤ N ∧ i = .int .i64 k ∧ Hid (allInt (L.take k) = true)) (fun i => N - (intOf i).toNat)
  case atStart => exact ⟨0, Nat.zero_le _, rfl, rfl⟩
  case round =>
    obtain ⟨n, hn, rfl, HA⟩ := hrel
    by_cases hlt : n < N
    · have hki : (n : Int) < (N : Int) := by omega
      obtain ⟨v, HG⟩ : ∃ v, Hid (L[n]? = some v) := ⟨_, List.getElem?_eq_getElem (by rw [HN.out]; exact hlt)⟩
      obtain ⟨b, o, rfl, c0, c1, c2⟩ := HV.out n v HG.out
      by_cases h1 : v.k = 1
      · have HA2 : Hid (allInt (L.take (n + 1)) = true) := by rw [Hid, allInt_take HG.out, HA.out, decide_eq_true h1]; rfl
        have d1 : (v.k != 1) = false := by simpa using h1
        clear h1
        go_wp2
        go_round
        case rel => exact ⟨n + 1, by omega, by go_num, HA2⟩
        case measure => simp [intOf]; omega
      · have HA2 : allInt L = false := allInt_no (n := n + 1) (by rw [allInt_take HG.out, decide_eq_false h1]; simp)
        exact absurd (hA.symm.trans HA2) (by decide)
    · have hki : ¬ (n : Int) < (N : Int) := by omega
      clear hlt hn HA
      go_wp2
      go_loopw [7, 8] (fun x y wr => ∃ (j : Nat) (q : Bool), j + 1 ≤ N ∧ y = .int .i64 ((j : Int) + 1) ∧ x = .bool q ∧ Hid (SameW W wr) ∧ Hid (chainB 3 ((numsV L).take (j + 1)) = q)) (fun _ y _ => N - (intOf y).toNat)
      case atStart =>
        refine ⟨0, true, by omega, rfl, rfl, SameW.refl _, ?_⟩
        rw [Hid]
        cases e : numsV L with
        | nil => rfl
        | cons a r => rfl
      case round =>
        obtain ⟨j, q, hj, rfl, rfl, HS, HT⟩ := hrel
        by_cases hlt : j + 1 < N
        · have hki : (j : Int) + 1 < (N : Int) := by omega
          have hk0 : (0 : Int) ≤ (j : Int) := by omega
          have hkn : (j : Int) < (N : Int) := by omega
          obtain ⟨x, HGx⟩ : ∃ v, Hid (L[j]? = some v) := ⟨_, List.getElem?_eq_getElem (by rw [HN.out]; omega)⟩
          obtain ⟨y, HGy⟩ : ∃ v, Hid (L[j + 1]? = some v) := ⟨_, List.getElem?_eq_getElem (by rw [HN.out]; omega)⟩
          obtain ⟨b, o, rfl, c0, c1, c2⟩ := (HV.out.next (HS.out.below _)) j x HGx.out
          obtain ⟨b', o', hbo, e0', e1, e2⟩ := (HV.out.next (HS.out.below _)) (j + 1) y HGy.out
          obtain ⟨rfl, rfl⟩ : b' = b ∧ o' = o := by injection hbo with h; injection h with h1 h2; exact ⟨h1.symm, h2.symm⟩
          obtain ⟨z, HZ⟩ : ∃ z, Hid (standB 3 x.i y.i = z) := ⟨_, rfl⟩
          have HT2 : Hid (chainB 3 ((numsV L).take (j + 2)) = (q && z)) := by rw [Hid, chain_take _ _ j x.i y.i (numsV_get HGx.out) (numsV_get HGy.out), HT.out, HZ.out]
          clear hbo e0' e2 c0 c2
          cases q
          · go_wp2
            go_quiet (fail)
            go_wp2
            go_roundw
            case rel => exact ⟨j + 1, _, by omega, by go_num, rfl, HS.out.drewN _, HT2⟩
            case measure => simp [intOf]; omega
          · go_wp2
            go_quiet ((go_at_call 40; exact Calls.quiet_of_same (holds_any ⟨#[60]⟩ x.i y.i z _ (by decide) HZ.out)))
            go_wp2
            go_roundw
            case rel => exact ⟨j + 1, z, by omega, by go_num, rfl, HS.out.drewN _, HT2⟩
            case measure => simp [intOf]; omega
        · have hki : ¬ (j : Int) + 1 < (N : Int) := by omega
          have HE : Hid (((⟨2, 0, boolS q⟩ : Val), (0 : Int)) = (⟨k, i, t⟩, e0)) := by
            have h2 := HT.out
            rw [List.take_of_length_le (by rw [numsV_len, HN.out]; omega)] at h2
            have h := HX.out
            unfold numbersR at h
            rw [if_pos hA, if_pos (by decide), h2] at h
            exact h
          have HC2 := HX0.out.next (HS.out.below _)
          have b2 : Hid (Below B w wr) := HW0.out.trans (HS.out.below _)
          have z1 : Hid (B ≤ wr.heap.size) := Nat.le_of_lt HC2.lt
          go_wp2_with fail
          refine (rbool_any q _).mono ?_
          rintro e w3 ⟨rfl, hb3⟩
          obtain ⟨⟨p0, p1, p2⟩, pf⟩ := HC2.next hb3
          have b3 : Hid (Below B w w3) := below_next b2.out hb3 z1.out
          clear hb3 b2 HC2 z1
          go_wp2
          refine bodyPost_ret (v := .tuple #[.agg #[.int .i64 (2), .int .i64 (0), .string (boolS q)], .int .i64 0]) (by simp [results, Tryd.results30, go_sem, *]) rfl ⟨ret_ve HE.out, ?_⟩
          exact set3 b3.out _ _ _

set_option maxHeartbeats 4000000 in
set_option maxRecDepth 4000 in
theorem rnums_4 (k i e0 : Int) (t : ByteArray) (ao : Option Addr) (cap N B : Nat) (L : List Val) (w : World) (hB : w.heap.size = B) (hN : L.length = N) (hv : IsVals w ao L) (hm : N ≤ 1000) (h2 : 2 ≤ N) (hA : allInt L = true) (hr : numbersR 4 L = (⟨k, i, t⟩, e0)) :
    Calls Tryd.prog 30 #[.string ⟨#[60, 61]⟩, .slice ao N cap] w fun e w' => e = .returned (.tuple #[.agg #[.int .i64 (k), .int .i64 (i), .string (t)], .int .i64 e0]) ∧ Below B w w' := by
  have HB : Hid (w.heap.size = B) := hB
  have HV : Hid (IsVals (w.alloc (.cells #[.int .i64 0, .int .i64 0, .string ⟨#[]⟩] 26)) ao L) := hv.next (alloc_below' _ _)
  have HN : Hid (L.length = N) := hN
  have HX0 : Hid (Box0 B (w.alloc (.cells #[.int .i64 0, .int .i64 0, .string ⟨#[]⟩] 26))) := Box0.made hB
  have HW0 : Hid (Below B w (w.alloc (.cells #[.int .i64 0, .int .i64 0, .string ⟨#[]⟩] 26))) := by rw [Hid, ← hB]; exact alloc_below' _ _
  clear hv hN hB
  have HX : Hid (numbersR 4 L = (⟨k, i, t⟩, e0)) := hr
  clear hr
  go_enter Tryd.func30, Tryd.ntmps30
  go_wp2
  rw [HB.out]
  obtain ⟨W, HWe⟩ : ∃ W, W = (w.alloc (.cells #[.int .i64 0, .int .i64 0, .string ⟨#[]⟩] 26)) := ⟨_, rfl⟩
  rw [← HWe] at HV HX0 HW0 ⊢
  clear HWe
  go_loop [6] (fun i => ∃ k : Nat, k ≤ N ∧ i = .int .i64 k ∧ Hid (allInt (L.take k) = true)) (fun i => N - (intOf i).toNat)
  case atStart => exact ⟨0, Nat.zero_le _, rfl, rfl⟩
  case round =>
    obtain ⟨n, hn, rfl, HA⟩ := hrel
    by_cases hlt : n < N
    · have hki : (n : Int) < (N : Int) := by omega
      obtain ⟨v, HG⟩ : ∃ v, Hid (L[n]? = some v) := ⟨_, List.getElem?_eq_getElem (by rw [HN.out]; exact hlt)⟩
      obtain ⟨b, o, rfl, c0, c1, c2⟩ := HV.out n v HG.out
      by_cases h1 : v.k = 1
      · have HA2 : Hid (allInt (L.take (n + 1)) = true) := by rw [Hid, allInt_take HG.out, HA.out, decide_eq_true h1]; rfl
        have d1 : (v.k != 1) = false := by simpa using h1
        clear h1
        go_wp2
        go_round
        case rel => exact ⟨n + 1, by omega, by go_num, HA2⟩
        case measure => simp [intOf]; omega
      · have HA2 : allInt L = false := allInt_no (n := n + 1) (by rw [allInt_take HG.out, decide_eq_false h1]; simp)
        exact absurd (hA.symm.trans HA2) (by decide)
    · have hki : ¬ (n : Int) < (N : Int) := by omega
      clear hlt hn HA
      go_wp2
      go_loopw [7, 8] (fun x y wr => ∃ (j : Nat) (q : Bool), j + 1 ≤ N ∧ y = .int .i64 ((j : Int) + 1) ∧ x = .bool q ∧ Hid (SameW W wr) ∧ Hid (chainB 4 ((numsV L).take (j + 1)) = q)) (fun _ y _ => N - (intOf y).toNat)
      case atStart =>
        refine ⟨0, true, by omega, rfl, rfl, SameW.refl _, ?_⟩
        rw [Hid]
        cases e : numsV L with
        | nil => rfl
        | cons a r => rfl
      case round =>
        obtain ⟨j, q, hj, rfl, rfl, HS, HT⟩ := hrel
        by_cases hlt : j + 1 < N
        · have hki : (j : Int) + 1 < (N : Int) := by omega
          have hk0 : (0 : Int) ≤ (j : Int) := by omega
          have hkn : (j : Int) < (N : Int) := by omega
          obtain ⟨x, HGx⟩ : ∃ v, Hid (L[j]? = some v) := ⟨_, List.getElem?_eq_getElem (by rw [HN.out]; omega)⟩
          obtain ⟨y, HGy⟩ : ∃ v, Hid (L[j + 1]? = some v) := ⟨_, List.getElem?_eq_getElem (by rw [HN.out]; omega)⟩
          obtain ⟨b, o, rfl, c0, c1, c2⟩ := (HV.out.next (HS.out.below _)) j x HGx.out
          obtain ⟨b', o', hbo, e0', e1, e2⟩ := (HV.out.next (HS.out.below _)) (j + 1) y HGy.out
          obtain ⟨rfl, rfl⟩ : b' = b ∧ o' = o := by injection hbo with h; injection h with h1 h2; exact ⟨h1.symm, h2.symm⟩
          obtain ⟨z, HZ⟩ : ∃ z, Hid (standB 4 x.i y.i = z) := ⟨_, rfl⟩
          have HT2 : Hid (chainB 4 ((numsV L).take (j + 2)) = (q && z)) := by rw [Hid, chain_take _ _ j x.i y.i (numsV_get HGx.out) (numsV_get HGy.out), HT.out, HZ.out]
          clear hbo e0' e2 c0 c2
          cases q
          · go_wp2
            go_quiet (fail)
            go_wp2
            go_roundw
            case rel => exact ⟨j + 1, _, by omega, by go_num, rfl, HS.out.drewN _, HT2⟩
            case measure => simp [intOf]; omega
          · go_wp2
            go_quiet ((go_at_call 40; exact Calls.quiet_of_same (holds_any ⟨#[60, 61]⟩ x.i y.i z _ (by decide) HZ.out)))
            go_wp2
            go_roundw
            case rel => exact ⟨j + 1, z, by omega, by go_num, rfl, HS.out.drewN _, HT2⟩
            case measure => simp [intOf]; omega
        · have hki : ¬ (j : Int) + 1 < (N : Int) := by omega
          have HE : Hid (((⟨2, 0, boolS q⟩ : Val), (0 : Int)) = (⟨k, i, t⟩, e0)) := by
            have h2 := HT.out
            rw [List.take_of_length_le (by rw [numsV_len, HN.out]; omega)] at h2
            have h := HX.out
            unfold numbersR at h
            rw [if_pos hA, if_pos (by decide), h2] at h
            exact h
          have HC2 := HX0.out.next (HS.out.below _)
          have b2 : Hid (Below B w wr) := HW0.out.trans (HS.out.below _)
          have z1 : Hid (B ≤ wr.heap.size) := Nat.le_of_lt HC2.lt
          go_wp2_with fail
          refine (rbool_any q _).mono ?_
          rintro e w3 ⟨rfl, hb3⟩
          obtain ⟨⟨p0, p1, p2⟩, pf⟩ := HC2.next hb3
          have b3 : Hid (Below B w w3) := below_next b2.out hb3 z1.out
          clear hb3 b2 HC2 z1
          go_wp2
          refine bodyPost_ret (v := .tuple #[.agg #[.int .i64 (2), .int .i64 (0), .string (boolS q)], .int .i64 0]) (by simp [results, Tryd.results30, go_sem, *]) rfl ⟨ret_ve HE.out, ?_⟩
          exact set3 b3.out _ _ _

set_option maxHeartbeats 4000000 in
set_option maxRecDepth 4000 in
theorem rnums_7 (k i e0 : Int) (t : ByteArray) (ao : Option Addr) (cap N B : Nat) (L : List Val) (w : World) (hB : w.heap.size = B) (hN : L.length = N) (hv : IsVals w ao L) (hm : N ≤ 1000) (h2 : 2 ≤ N) (hA : allInt L = true) (hr : numbersR 7 L = (⟨k, i, t⟩, e0)) :
    Calls Tryd.prog 30 #[.string ⟨#[62]⟩, .slice ao N cap] w fun e w' => e = .returned (.tuple #[.agg #[.int .i64 (k), .int .i64 (i), .string (t)], .int .i64 e0]) ∧ Below B w w' := by
  have HB : Hid (w.heap.size = B) := hB
  have HV : Hid (IsVals (w.alloc (.cells #[.int .i64 0, .int .i64 0, .string ⟨#[]⟩] 26)) ao L) := hv.next (alloc_below' _ _)
  have HN : Hid (L.length = N) := hN
  have HX0 : Hid (Box0 B (w.alloc (.cells #[.int .i64 0, .int .i64 0, .string ⟨#[]⟩] 26))) := Box0.made hB
  have HW0 : Hid (Below B w (w.alloc (.cells #[.int .i64 0, .int .i64 0, .string ⟨#[]⟩] 26))) := by rw [Hid, ← hB]; exact alloc_below' _ _
  clear hv hN hB
  have HX : Hid (numbersR 7 L = (⟨k, i, t⟩, e0)) := hr
  clear hr
  go_enter Tryd.func30, Tryd.ntmps30
  go_wp2
  rw [HB.out]
  obtain ⟨W, HWe⟩ : ∃ W, W = (w.alloc (.cells #[.int .i64 0, .int .i64 0, .string ⟨#[]⟩] 26)) := ⟨_, rfl⟩
  rw [← HWe] at HV HX0 HW0 ⊢
  clear HWe
  go_loop [6] (fun i => ∃ k : Nat, k ≤ N ∧ i = .int .i64 k ∧ Hid (allInt (L.take k) = true)) (fun i => N - (intOf i).toNat)
  case atStart => exact ⟨0, Nat.zero_le _, rfl, rfl⟩
  case round =>
    obtain ⟨n, hn, rfl, HA⟩ := hrel
    by_cases hlt : n < N
    · have hki : (n : Int) < (N : Int) := by omega
      obtain ⟨v, HG⟩ : ∃ v, Hid (L[n]? = some v) := ⟨_, List.getElem?_eq_getElem (by rw [HN.out]; exact hlt)⟩
      obtain ⟨b, o, rfl, c0, c1, c2⟩ := HV.out n v HG.out
      by_cases h1 : v.k = 1
      · have HA2 : Hid (allInt (L.take (n + 1)) = true) := by rw [Hid, allInt_take HG.out, HA.out, decide_eq_true h1]; rfl
        have d1 : (v.k != 1) = false := by simpa using h1
        clear h1
        go_wp2
        go_round
        case rel => exact ⟨n + 1, by omega, by go_num, HA2⟩
        case measure => simp [intOf]; omega
      · have HA2 : allInt L = false := allInt_no (n := n + 1) (by rw [allInt_take HG.out, decide_eq_false h1]; simp)
        exact absurd (hA.symm.trans HA2) (by decide)
    · have hki : ¬ (n : Int) < (N : Int) := by omega
      clear hlt hn HA
      go_wp2
      go_loopw [7, 8] (fun x y wr => ∃ (j : Nat) (q : Bool), j + 1 ≤ N ∧ y = .int .i64 ((j : Int) + 1) ∧ x = .bool q ∧ Hid (SameW W wr) ∧ Hid (chainB 7 ((numsV L).take (j + 1)) = q)) (fun _ y _ => N - (intOf y).toNat)
      case atStart =>
        refine ⟨0, true, by omega, rfl, rfl, SameW.refl _, ?_⟩
        rw [Hid]
        cases e : numsV L with
        | nil => rfl
        | cons a r => rfl
      case round =>
        obtain ⟨j, q, hj, rfl, rfl, HS, HT⟩ := hrel
        by_cases hlt : j + 1 < N
        · have hki : (j : Int) + 1 < (N : Int) := by omega
          have hk0 : (0 : Int) ≤ (j : Int) := by omega
          have hkn : (j : Int) < (N : Int) := by omega
          obtain ⟨x, HGx⟩ : ∃ v, Hid (L[j]? = some v) := ⟨_, List.getElem?_eq_getElem (by rw [HN.out]; omega)⟩
          obtain ⟨y, HGy⟩ : ∃ v, Hid (L[j + 1]? = some v) := ⟨_, List.getElem?_eq_getElem (by rw [HN.out]; omega)⟩
          obtain ⟨b, o, rfl, c0, c1, c2⟩ := (HV.out.next (HS.out.below _)) j x HGx.out
          obtain ⟨b', o', hbo, e0', e1, e2⟩ := (HV.out.next (HS.out.below _)) (j + 1) y HGy.out
          obtain ⟨rfl, rfl⟩ : b' = b ∧ o' = o := by injection hbo with h; injection h with h1 h2; exact ⟨h1.symm, h2.symm⟩
          obtain ⟨z, HZ⟩ : ∃ z, Hid (standB 7 x.i y.i = z) := ⟨_, rfl⟩
          have HT2 : Hid (chainB 7 ((numsV L).take (j + 2)) = (q && z)) := by rw [Hid, chain_take _ _ j x.i y.i (numsV_get HGx.out) (numsV_get HGy.out), HT.out, HZ.out]
          clear hbo e0' e2 c0 c2
          cases q
          · go_wp2
            go_quiet (fail)
            go_wp2
            go_roundw
            case rel => exact ⟨j + 1, _, by omega, by go_num, rfl, HS.out.drewN _, HT2⟩
            case measure => simp [intOf]; omega
          · go_wp2
            go_quiet ((go_at_call 40; exact Calls.quiet_of_same (holds_any ⟨#[62]⟩ x.i y.i z _ (by decide) HZ.out)))
            go_wp2
            go_roundw
            case rel => exact ⟨j + 1, z, by omega, by go_num, rfl, HS.out.drewN _, HT2⟩
            case measure => simp [intOf]; omega
        · have hki : ¬ (j : Int) + 1 < (N : Int) := by omega
          have HE : Hid (((⟨2, 0, boolS q⟩ : Val), (0 : Int)) = (⟨k, i, t⟩, e0)) := by
            have h2 := HT.out
            rw [List.take_of_length_le (by rw [numsV_len, HN.out]; omega)] at h2
            have h := HX.out
            unfold numbersR at h
            rw [if_pos hA, if_pos (by decide), h2] at h
            exact h
          have HC2 := HX0.out.next (HS.out.below _)
          have b2 : Hid (Below B w wr) := HW0.out.trans (HS.out.below _)
          have z1 : Hid (B ≤ wr.heap.size) := Nat.le_of_lt HC2.lt
          go_wp2_with fail
          refine (rbool_any q _).mono ?_
          rintro e w3 ⟨rfl, hb3⟩
          obtain ⟨⟨p0, p1, p2⟩, pf⟩ := HC2.next hb3
          have b3 : Hid (Below B w w3) := below_next b2.out hb3 z1.out
          clear hb3 b2 HC2 z1
          go_wp2
          refine bodyPost_ret (v := .tuple #[.agg #[.int .i64 (2), .int .i64 (0), .string (boolS q)], .int .i64 0]) (by simp [results, Tryd.results30, go_sem, *]) rfl ⟨ret_ve HE.out, ?_⟩
          exact set3 b3.out _ _ _

set_option maxHeartbeats 4000000 in
set_option maxRecDepth 4000 in
theorem rnums_8 (k i e0 : Int) (t : ByteArray) (ao : Option Addr) (cap N B : Nat) (L : List Val) (w : World) (hB : w.heap.size = B) (hN : L.length = N) (hv : IsVals w ao L) (hm : N ≤ 1000) (h2 : 2 ≤ N) (hA : allInt L = true) (hr : numbersR 8 L = (⟨k, i, t⟩, e0)) :
    Calls Tryd.prog 30 #[.string ⟨#[62, 61]⟩, .slice ao N cap] w fun e w' => e = .returned (.tuple #[.agg #[.int .i64 (k), .int .i64 (i), .string (t)], .int .i64 e0]) ∧ Below B w w' := by
  have HB : Hid (w.heap.size = B) := hB
  have HV : Hid (IsVals (w.alloc (.cells #[.int .i64 0, .int .i64 0, .string ⟨#[]⟩] 26)) ao L) := hv.next (alloc_below' _ _)
  have HN : Hid (L.length = N) := hN
  have HX0 : Hid (Box0 B (w.alloc (.cells #[.int .i64 0, .int .i64 0, .string ⟨#[]⟩] 26))) := Box0.made hB
  have HW0 : Hid (Below B w (w.alloc (.cells #[.int .i64 0, .int .i64 0, .string ⟨#[]⟩] 26))) := by rw [Hid, ← hB]; exact alloc_below' _ _
  clear hv hN hB
  have HX : Hid (numbersR 8 L = (⟨k, i, t⟩, e0)) := hr
  clear hr
  go_enter Tryd.func30, Tryd.ntmps30
  go_wp2
  rw [HB.out]
  obtain ⟨W, HWe⟩ : ∃ W, W = (w.alloc (.cells #[.int .i64 0, .int .i64 0, .string ⟨#[]⟩] 26)) := ⟨_, rfl⟩
  rw [← HWe] at HV HX0 HW0 ⊢
  clear HWe
  go_loop [6] (fun i => ∃ k : Nat, k ≤ N ∧ i = .int .i64 k ∧ Hid (allInt (L.take k) = true)) (fun i => N - (intOf i).toNat)
  case atStart => exact ⟨0, Nat.zero_le _, rfl, rfl⟩
  case round =>
    obtain ⟨n, hn, rfl, HA⟩ := hrel
    by_cases hlt : n < N
    · have hki : (n : Int) < (N : Int) := by omega
      obtain ⟨v, HG⟩ : ∃ v, Hid (L[n]? = some v) := ⟨_, List.getElem?_eq_getElem (by rw [HN.out]; exact hlt)⟩
      obtain ⟨b, o, rfl, c0, c1, c2⟩ := HV.out n v HG.out
      by_cases h1 : v.k = 1
      · have HA2 : Hid (allInt (L.take (n + 1)) = true) := by rw [Hid, allInt_take HG.out, HA.out, decide_eq_true h1]; rfl
        have d1 : (v.k != 1) = false := by simpa using h1
        clear h1
        go_wp2
        go_round
        case rel => exact ⟨n + 1, by omega, by go_num, HA2⟩
        case measure => simp [intOf]; omega
      · have HA2 : allInt L = false := allInt_no (n := n + 1) (by rw [allInt_take HG.out, decide_eq_false h1]; simp)
        exact absurd (hA.symm.trans HA2) (by decide)
    · have hki : ¬ (n : Int) < (N : Int) := by omega
      clear hlt hn HA
      go_wp2
      go_loopw [7, 8] (fun x y wr => ∃ (j : Nat) (q : Bool), j + 1 ≤ N ∧ y = .int .i64 ((j : Int) + 1) ∧ x = .bool q ∧ Hid (SameW W wr) ∧ Hid (chainB 8 ((numsV L).take (j + 1)) = q)) (fun _ y _ => N - (intOf y).toNat)
      case atStart =>
        refine ⟨0, true, by omega, rfl, rfl, SameW.refl _, ?_⟩
        rw [Hid]
        cases e : numsV L with
        | nil => rfl
        | cons a r => rfl
      case round =>
        obtain ⟨j, q, hj, rfl, rfl, HS, HT⟩ := hrel
        by_cases hlt : j + 1 < N
        · have hki : (j : Int) + 1 < (N : Int) := by omega
          have hk0 : (0 : Int) ≤ (j : Int) := by omega
          have hkn : (j : Int) < (N : Int) := by omega
          obtain ⟨x, HGx⟩ : ∃ v, Hid (L[j]? = some v) := ⟨_, List.getElem?_eq_getElem (by rw [HN.out]; omega)⟩
          obtain ⟨y, HGy⟩ : ∃ v, Hid (L[j + 1]? = some v) := ⟨_, List.getElem?_eq_getElem (by rw [HN.out]; omega)⟩
          obtain ⟨b, o, rfl, c0, c1, c2⟩ := (HV.out.next (HS.out.below _)) j x HGx.out
          obtain ⟨b', o', hbo, e0', e1, e2⟩ := (HV.out.next (HS.out.below _)) (j + 1) y HGy.out
          obtain ⟨rfl, rfl⟩ : b' = b ∧ o' = o := by injection hbo with h; injection h with h1 h2; exact ⟨h1.symm, h2.symm⟩
          obtain ⟨z, HZ⟩ : ∃ z, Hid (standB 8 x.i y.i = z) := ⟨_, rfl⟩
          have HT2 : Hid (chainB 8 ((numsV L).take (j + 2)) = (q && z)) := by rw [Hid, chain_take _ _ j x.i y.i (numsV_get HGx.out) (numsV_get HGy.out), HT.out, HZ.out]
          clear hbo e0' e2 c0 c2
          cases q
          · go_wp2
            go_quiet (fail)
            go_wp2
            go_roundw
            case rel => exact ⟨j + 1, _, by omega, by go_num, rfl, HS.out.drewN _, HT2⟩
            case measure => simp [intOf]; omega
          · go_wp2
            go_quiet ((go_at_call 40; exact Calls.quiet_of_same (holds_any ⟨#[62, 61]⟩ x.i y.i z _ (by decide) HZ.out)))
            go_wp2
            go_roundw
            case rel => exact ⟨j + 1, z, by omega, by go_num, rfl, HS.out.drewN _, HT2⟩
            case measure => simp [intOf]; omega
        · have hki : ¬ (j : Int) + 1 < (N : Int) := by omega
          have HE : Hid (((⟨2, 0, boolS q⟩ : Val), (0 : Int)) = (⟨k, i, t⟩, e0)) := by
            have h2 := HT.out
            rw [List.take_of_length_le (by rw [numsV_len, HN.out]; omega)] at h2
            have h := HX.out
            unfold numbersR at h
            rw [if_pos hA, if_pos (by decide), h2] at h
            exact h
          have HC2 := HX0.out.next (HS.out.below _)
          have b2 : Hid (Below B w wr) := HW0.out.trans (HS.out.below _)
          have z1 : Hid (B ≤ wr.heap.size) := Nat.le_of_lt HC2.lt
          go_wp2_with fail
          refine (rbool_any q _).mono ?_
          rintro e w3 ⟨rfl, hb3⟩
          obtain ⟨⟨p0, p1, p2⟩, pf⟩ := HC2.next hb3
          have b3 : Hid (Below B w w3) := below_next b2.out hb3 z1.out
          clear hb3 b2 HC2 z1
          go_wp2
          refine bodyPost_ret (v := .tuple #[.agg #[.int .i64 (2), .int .i64 (0), .string (boolS q)], .int .i64 0]) (by simp [results, Tryd.results30, go_sem, *]) rfl ⟨ret_ve HE.out, ?_⟩
          exact set3 b3.out _ _ _

end Go.Proofs.YtfglmfldpmpofaaDoor
