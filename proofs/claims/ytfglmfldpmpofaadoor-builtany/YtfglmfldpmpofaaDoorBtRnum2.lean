/- The reference's numbers at sums, and at what is no number. -/
import Derived.Test.YtfglmfldpmpofaaDoorBtRnum
namespace Go.Proofs.YtfglmfldpmpofaaDoor
open Go.RowKit

set_option maxHeartbeats 4000000 in
set_option maxRecDepth 4000 in
theorem rnums_no (s : ByteArray) (k i e0 : Int) (t : ByteArray) (ao : Option Addr) (cap N B : Nat) (L : List Val) (w : World) (hB : w.heap.size = B) (hN : L.length = N) (hv : IsVals w ao L) (hm : N ≤ 1000) (hA : allInt L = false) (hr : ((⟨0, 0, ⟨#[]⟩⟩ : Val), (8 : Int)) = (⟨k, i, t⟩, e0)) :
    Calls Tryd.prog 30 #[.string s, .slice ao N cap] w fun e w' => e = .returned (.tuple #[.agg #[.int .i64 (k), .int .i64 (i), .string (t)], .int .i64 e0]) ∧ Below B w w' := by
  have HB : Hid (w.heap.size = B) := hB
  have HV : Hid (IsVals (w.alloc (.cells #[.int .i64 0, .int .i64 0, .string ⟨#[]⟩] 26)) ao L) := hv.next (alloc_below' _ _)
  have HN : Hid (L.length = N) := hN
  have HX0 : Hid (Box0 B (w.alloc (.cells #[.int .i64 0, .int .i64 0, .string ⟨#[]⟩] 26))) := Box0.made hB
  have HW0 : Hid (Below B w (w.alloc (.cells #[.int .i64 0, .int .i64 0, .string ⟨#[]⟩] 26))) := by rw [Hid, ← hB]; exact alloc_below' _ _
  clear hv hN hB
  have HX : Hid (((⟨0, 0, ⟨#[]⟩⟩ : Val), (8 : Int)) = (⟨k, i, t⟩, e0)) := hr
  clear hr
  go_enter Tryd.func30, Tryd.ntmps30
  go_wp2
  rw [HB.out]
  obtain ⟨W, HWe⟩ : ∃ W, W = (w.alloc (.cells #[.int .i64 0, .int .i64 0, .string ⟨#[]⟩] 26)) := ⟨_, rfl⟩
  rw [← HWe] at HV HX0 HW0 ⊢
  clear HWe
  go_loop [6] (fun i => ∃ k : Nat, k ≤ N ∧ i = .int .i64 k ∧ Hid (allInt (L.take k) = true)) (fun i => N - (intOf i).toNat)
  case atStart => exact ⟨0, Nat.zero_le _, rfl, rfl⟩
  case round =>
    obtain ⟨n, hn, rfl, HA⟩ := hrel
    by_cases hlt : n < N
    · have hki : (n : Int) < (N : Int) := by omega
      obtain ⟨v, HG⟩ : ∃ v, Hid (L[n]? = some v) := ⟨_, List.getElem?_eq_getElem (by rw [HN.out]; exact hlt)⟩
      obtain ⟨b, o, rfl, c0, c1, c2⟩ := HV.out n v HG.out
      by_cases h1 : v.k = 1
      · have HA2 : Hid (allInt (L.take (n + 1)) = true) := by rw [Hid, allInt_take HG.out, HA.out, decide_eq_true h1]; rfl
        have d1 : (v.k != 1) = false := by simpa using h1
        clear h1
        go_wp2
        go_round
        case rel => exact ⟨n + 1, by omega, by go_num, HA2⟩
        case measure => simp [intOf]; omega
      · have HA2 : allInt L = false := allInt_no (n := n + 1) (by rw [allInt_take HG.out, decide_eq_false h1]; simp)
        have HE : Hid (((⟨0, 0, ⟨#[]⟩⟩ : Val), (8 : Int)) = (⟨k, i, t⟩, e0)) := by
          exact HX.out
        have d1 : (v.k != 1) = true := by simpa using h1
        obtain ⟨⟨p0, p1, p2⟩, pf⟩ := HX0.out
        clear h1 HA2 HX
        go_wp2
        refine bodyPost_ret (v := .tuple #[.agg #[.int .i64 (0), .int .i64 (0), .string (⟨#[]⟩)], .int .i64 8]) (by simp [results, Tryd.results30, go_sem, *]) rfl ⟨ret_ve HE.out, ?_⟩
        exact set3 HW0.out _ _ _
    · have hki : ¬ (n : Int) < (N : Int) := by omega
      have HA : allInt L = true := by
        have h := HA.out
        rw [List.take_of_length_le (by rw [HN.out]; omega)] at h
        exact h
      exact absurd hA (by rw [HA]; decide)

set_option maxHeartbeats 4000000 in
set_option maxRecDepth 4000 in
theorem rnums_a (s : ByteArray) (k i e0 : Int) (t : ByteArray) (ao : Option Addr) (cap N B : Nat) (L : List Val) (w : World) (hB : w.heap.size = B) (hN : L.length = N) (hv : IsVals w ao L) (hm : N ≤ 1000) (z : Val) (R : List Val) (hL : L = z :: R) (hl : ∀ v ∈ L, inB v.i = true) (hA : allInt L = true) (hs : sumC (code s) = true) (hd : code s = 10 ∨ code s = 13 ∨ code s = 14 ∨ code s = 15) (hr : sumR (foldE (twoF (code s)) z.i (numsV R)) = (⟨k, i, t⟩, e0)) :
    Calls Tryd.prog 30 #[.string s, .slice ao N cap] w fun e w' => e = .returned (.tuple #[.agg #[.int .i64 (k), .int .i64 (i), .string (t)], .int .i64 e0]) ∧ Below B w w' := by
  have HB : Hid (w.heap.size = B) := hB
  have HV : Hid (IsVals (w.alloc (.cells #[.int .i64 0, .int .i64 0, .string ⟨#[]⟩] 26)) ao L) := hv.next (alloc_below' _ _)
  have HN : Hid (L.length = N) := hN
  have HX0 : Hid (Box0 B (w.alloc (.cells #[.int .i64 0, .int .i64 0, .string ⟨#[]⟩] 26))) := Box0.made hB
  have HW0 : Hid (Below B w (w.alloc (.cells #[.int .i64 0, .int .i64 0, .string ⟨#[]⟩] 26))) := by rw [Hid, ← hB]; exact alloc_below' _ _
  clear hv hN hB
  subst hL
  have hn1 : 1 ≤ N := by rw [← HN.out, List.length_cons]; omega
  have hk1 : (1 : Int) ≤ (N : Int) := by omega
  have HF : Hid (sumR (foldE (twoF (code s)) z.i (numsV R)) = (⟨k, i, t⟩, e0)) := hr
  have HL : Hid (∀ v ∈ z :: R, inB v.i = true) := hl
  clear hr hl
  have hx : (s.toList == [61]) = false ∧ (s.toList == [60, 62]) = false ∧ (s.toList == [60]) = false ∧ (s.toList == [60, 61]) = false ∧ (s.toList == [62]) = false ∧ (s.toList == [62, 61]) = false ∧ (s.toList == [97, 98, 115]) = false ∧ (s.toList == [45]) = false ∧ (s.toList == [43]) = false ∧ (s.toList == [42]) = false := by
    refine ⟨ne_list ?_, ne_list ?_, ne_list ?_, ne_list ?_, ne_list ?_, ne_list ?_, ne_list ?_, ne_list ?_, ne_list ?_, ne_list ?_⟩ <;> (rintro rfl; rcases hd with hd | hd | hd | hd <;> exact absurd hd (by decide))
  obtain ⟨x0, x1, x2, x3, x4, x5, x6, x7, x8, x9⟩ := hx
  have HS : Hid (sumC (code s) = true) := hs
  clear hd hs
  go_enter Tryd.func30, Tryd.ntmps30
  go_wp2
  rw [HB.out]
  obtain ⟨W, HWe⟩ : ∃ W, W = (w.alloc (.cells #[.int .i64 0, .int .i64 0, .string ⟨#[]⟩] 26)) := ⟨_, rfl⟩
  rw [← HWe] at HV HX0 HW0 ⊢
  clear HWe
  go_loop [6] (fun i => ∃ k : Nat, k ≤ N ∧ i = .int .i64 k ∧ Hid (allInt ((z :: R).take k) = true)) (fun i => N - (intOf i).toNat)
  case atStart => exact ⟨0, Nat.zero_le _, rfl, rfl⟩
  case round =>
    obtain ⟨n, hn, rfl, HA⟩ := hrel
    by_cases hlt : n < N
    · have hki : (n : Int) < (N : Int) := by omega
      obtain ⟨v, HG⟩ : ∃ v, Hid ((z :: R)[n]? = some v) := ⟨_, List.getElem?_eq_getElem (by rw [HN.out]; exact hlt)⟩
      obtain ⟨b, o, rfl, c0, c1, c2⟩ := HV.out n v HG.out
      by_cases h1 : v.k = 1
      · have HA2 : Hid (allInt ((z :: R).take (n + 1)) = true) := by rw [Hid, allInt_take HG.out, HA.out, decide_eq_true h1]; rfl
        have d1 : (v.k != 1) = false := by simpa using h1
        clear h1
        go_wp2
        go_round
        case rel => exact ⟨n + 1, by omega, by go_num, HA2⟩
        case measure => simp [intOf]; omega
      · have HA2 : allInt (z :: R) = false := allInt_no (n := n + 1) (by rw [allInt_take HG.out, decide_eq_false h1]; simp)
        exact absurd (hA.symm.trans HA2) (by decide)
    · have hki : ¬ (n : Int) < (N : Int) := by omega
      clear hlt hn HA
      obtain ⟨bb, oo, rfl, a0, a1, a2⟩ := first_val HV.out
      obtain ⟨W1, HWe⟩ : ∃ W1, W1 = W := ⟨_, rfl⟩
      rw [← HWe] at HV HX0 HW0 a0 a1 a2 ⊢
      clear HWe
      have HI : Hid (IsVals W1 (some ⟨bb, oo, none⟩) (z :: R)) := HV
      have HX1 : Hid (Box0 B W1) := HX0
      have HW1 : Hid (Below B w W1) := HW0
      have HM : Hid (R.length + 1 = N) := by rw [Hid, ← HN.out]; rfl
      have HIz : Hid (inB z.i = true) := HL.out z (by simp)
      have HIr : Hid (∀ v ∈ R, inB v.i = true) := fun v h => HL.out v (by simp [h])
      clear HV HX0 HW0 a0 a2
      go_wp2
      go_loop [9, 10] (fun x y => ∃ (j : Nat) (m : Int), j + 1 ≤ N ∧ y = .int .i64 ((j : Int) + 1) ∧ x = .int .i64 m ∧ Hid (inB m = true) ∧ Hid (sumR (foldE (twoF (code s)) m ((numsV R).drop j)) = (⟨k, i, t⟩, e0))) (fun _ y => N - (intOf y).toNat)
      case atStart => exact ⟨0, z.i, by omega, rfl, rfl, HIz, HF⟩
      case round =>
        obtain ⟨j, m, hj, rfl, rfl, HM2, HF2⟩ := hrel
        clear HF HIz
        by_cases hlt : j + 1 < N
        · have hki2 : (j : Int) + 1 < ((N : Nat) : Int) := by omega
          obtain ⟨u, HG⟩ : ∃ u, Hid (R[j]? = some u) := ⟨_, List.getElem?_eq_getElem (by have := HM.out; omega)⟩
          obtain ⟨b', o', hbo, c0, c1, c2⟩ := HI.out (j + 1) u HG.out
          obtain ⟨rfl, rfl⟩ : b' = bb ∧ o' = oo := by injection hbo with h; injection h with h1 h2; exact ⟨h1.symm, h2.symm⟩
          have Hu : Hid (inB u.i = true) := vals_in HIr.out HG.out
          have HD := HF2.out
          rw [drop_at (numsV_get HG.out)] at HD
          obtain ⟨V, E, HE0⟩ : ∃ V E, Hid (twoF (code s) m u.i = (V, E)) := ⟨_, _, rfl⟩
          have HVi : Hid (inB V = true) := by have := twoF_in (code s) m u.i HM2.out Hu.out; rw [HE0.out] at this; exact this
          clear hbo c0 c2
          by_cases h0 : E = 0
          · subst h0
            have HD2 : Hid (sumR (foldE (twoF (code s)) V ((numsV R).drop (j + 1))) = (⟨k, i, t⟩, e0)) := by rw [foldE_go HE0.out] at HD; exact HD
            clear HD
            go_wp2_with (go_at_call 41; refine (two_any s m u.i V 0 _ HS.out HM2.out Hu.out HE0.out).mono ?_; rintro e w1 ⟨rfl, rfl⟩)
            go_round
            case rel => exact ⟨j + 1, V, by omega, by go_num, rfl, HVi, HD2⟩
            case measure => simp [intOf]; omega
          · have d0 : (E != 0) = true := by simpa using h0
            have HE : Hid (((⟨0, 0, ⟨#[]⟩⟩ : Val), E) = (⟨k, i, t⟩, e0)) := by rw [foldE_no HE0.out h0, sumR_no h0] at HD; exact HD
            obtain ⟨⟨p0, p1, p2⟩, pf⟩ := HX1.out
            clear HD h0
            go_wp2_with (go_at_call 41; refine (two_any s m u.i V E _ HS.out HM2.out Hu.out HE0.out).mono ?_; rintro e w1 ⟨rfl, rfl⟩)
            refine bodyPost_ret (v := .tuple #[.agg #[.int .i64 (0), .int .i64 (0), .string (⟨#[]⟩)], .int .i64 E]) (by simp [results, Tryd.results30, go_sem, *]) rfl ⟨ret_ve HE.out, ?_⟩
            exact set3 HW1.out _ _ _
        · have hki2 : ¬ (j : Int) + 1 < ((N : Nat) : Int) := by omega
          have HE : Hid (((⟨1, m, ⟨#[]⟩⟩ : Val), (0 : Int)) = (⟨k, i, t⟩, e0)) := by
            have h := HF2.out
            rw [List.drop_eq_nil_of_le (by rw [numsV_len]; have := HM.out; omega), foldE_nil, sumR_yes] at h
            exact h
          have z1 : Hid (B ≤ W1.heap.size) := Nat.le_of_lt HX1.out.lt
          go_wp2_with fail
          refine (rint_any m _).mono ?_
          rintro e w3 ⟨rfl, hb3⟩
          obtain ⟨⟨p0, p1, p2⟩, pf⟩ := HX1.out.next hb3
          have b3 : Hid (Below B w w3) := below_next HW1.out hb3 z1.out
          clear hb3 z1
          go_wp2
          refine bodyPost_ret (v := .tuple #[.agg #[.int .i64 (1), .int .i64 (m), .string (⟨#[]⟩)], .int .i64 0]) (by simp [results, Tryd.results30, go_sem, *]) rfl ⟨ret_ve HE.out, ?_⟩
          exact set3 b3.out _ _ _

set_option maxHeartbeats 4000000 in
set_option maxRecDepth 4000 in
theorem rnums_b (k i e0 : Int) (t : ByteArray) (ao : Option Addr) (cap N B : Nat) (L : List Val) (w : World) (hB : w.heap.size = B) (hN : L.length = N) (hv : IsVals w ao L) (hm : N ≤ 1000) (z : Val) (R : List Val) (hL : L = z :: R) (hl : ∀ v ∈ L, inB v.i = true) (hA : allInt L = true) (h2 : 2 ≤ N) (hr : sumR (foldE (twoF 2) z.i (numsV R)) = (⟨k, i, t⟩, e0)) :
    Calls Tryd.prog 30 #[.string ⟨#[45]⟩, .slice ao N cap] w fun e w' => e = .returned (.tuple #[.agg #[.int .i64 (k), .int .i64 (i), .string (t)], .int .i64 e0]) ∧ Below B w w' := by
  have HB : Hid (w.heap.size = B) := hB
  have HV : Hid (IsVals (w.alloc (.cells #[.int .i64 0, .int .i64 0, .string ⟨#[]⟩] 26)) ao L) := hv.next (alloc_below' _ _)
  have HN : Hid (L.length = N) := hN
  have HX0 : Hid (Box0 B (w.alloc (.cells #[.int .i64 0, .int .i64 0, .string ⟨#[]⟩] 26))) := Box0.made hB
  have HW0 : Hid (Below B w (w.alloc (.cells #[.int .i64 0, .int .i64 0, .string ⟨#[]⟩] 26))) := by rw [Hid, ← hB]; exact alloc_below' _ _
  clear hv hN hB
  subst hL
  have hn1 : 1 ≤ N := by rw [← HN.out, List.length_cons]; omega
  have hk1 : (1 : Int) ≤ (N : Int) := by omega
  have HF : Hid (sumR (foldE (twoF 2) z.i (numsV R)) = (⟨k, i, t⟩, e0)) := hr
  have HL : Hid (∀ v ∈ z :: R, inB v.i = true) := hl
  clear hr hl
  have hnn : ((N : Int) == 1) = false := by simp; omega
  go_enter Tryd.func30, Tryd.ntmps30
  go_wp2
  rw [HB.out]
  obtain ⟨W, HWe⟩ : ∃ W, W = (w.alloc (.cells #[.int .i64 0, .int .i64 0, .string ⟨#[]⟩] 26)) := ⟨_, rfl⟩
  rw [← HWe] at HV HX0 HW0 ⊢
  clear HWe
  go_loop [6] (fun i => ∃ k : Nat, k ≤ N ∧ i = .int .i64 k ∧ Hid (allInt ((z :: R).take k) = true)) (fun i => N - (intOf i).toNat)
  case atStart => exact ⟨0, Nat.zero_le _, rfl, rfl⟩
  case round =>
    obtain ⟨n, hn, rfl, HA⟩ := hrel
    by_cases hlt : n < N
    · have hki : (n : Int) < (N : Int) := by omega
      obtain ⟨v, HG⟩ : ∃ v, Hid ((z :: R)[n]? = some v) := ⟨_, List.getElem?_eq_getElem (by rw [HN.out]; exact hlt)⟩
      obtain ⟨b, o, rfl, c0, c1, c2⟩ := HV.out n v HG.out
      by_cases h1 : v.k = 1
      · have HA2 : Hid (allInt ((z :: R).take (n + 1)) = true) := by rw [Hid, allInt_take HG.out, HA.out, decide_eq_true h1]; rfl
        have d1 : (v.k != 1) = false := by simpa using h1
        clear h1
        go_wp2
        go_round
        case rel => exact ⟨n + 1, by omega, by go_num, HA2⟩
        case measure => simp [intOf]; omega
      · have HA2 : allInt (z :: R) = false := allInt_no (n := n + 1) (by rw [allInt_take HG.out, decide_eq_false h1]; simp)
        exact absurd (hA.symm.trans HA2) (by decide)
    · have hki : ¬ (n : Int) < (N : Int) := by omega
      clear hlt hn HA
      obtain ⟨bb, oo, rfl, a0, a1, a2⟩ := first_val HV.out
      obtain ⟨W1, HWe⟩ : ∃ W1, W1 = W := ⟨_, rfl⟩
      rw [← HWe] at HV HX0 HW0 a0 a1 a2 ⊢
      clear HWe
      have HI : Hid (IsVals W1 (some ⟨bb, oo, none⟩) (z :: R)) := HV
      have HX1 : Hid (Box0 B W1) := HX0
      have HW1 : Hid (Below B w W1) := HW0
      have HM : Hid (R.length + 1 = N) := by rw [Hid, ← HN.out]; rfl
      have HIz : Hid (inB z.i = true) := HL.out z (by simp)
      have HIr : Hid (∀ v ∈ R, inB v.i = true) := fun v h => HL.out v (by simp [h])
      clear HV HX0 HW0 a0 a2
      go_wp2
      go_loop [9, 10] (fun x y => ∃ (j : Nat) (m : Int), j + 1 ≤ N ∧ y = .int .i64 ((j : Int) + 1) ∧ x = .int .i64 m ∧ Hid (inB m = true) ∧ Hid (sumR (foldE (twoF 2) m ((numsV R).drop j)) = (⟨k, i, t⟩, e0))) (fun _ y => N - (intOf y).toNat)
      case atStart => exact ⟨0, z.i, by omega, rfl, rfl, HIz, HF⟩
      case round =>
        obtain ⟨j, m, hj, rfl, rfl, HM2, HF2⟩ := hrel
        clear HF HIz
        by_cases hlt : j + 1 < N
        · have hki2 : (j : Int) + 1 < ((N : Nat) : Int) := by omega
          obtain ⟨u, HG⟩ : ∃ u, Hid (R[j]? = some u) := ⟨_, List.getElem?_eq_getElem (by have := HM.out; omega)⟩
          obtain ⟨b', o', hbo, c0, c1, c2⟩ := HI.out (j + 1) u HG.out
          obtain ⟨rfl, rfl⟩ : b' = bb ∧ o' = oo := by injection hbo with h; injection h with h1 h2; exact ⟨h1.symm, h2.symm⟩
          have Hu : Hid (inB u.i = true) := vals_in HIr.out HG.out
          have HD := HF2.out
          rw [drop_at (numsV_get HG.out)] at HD
          obtain ⟨V, E, HE0⟩ : ∃ V E, Hid (twoF 2 m u.i = (V, E)) := ⟨_, _, rfl⟩
          have HVi : Hid (inB V = true) := by have := twoF_in 2 m u.i HM2.out Hu.out; rw [HE0.out] at this; exact this
          clear hbo c0 c2
          by_cases h0 : E = 0
          · subst h0
            have HD2 : Hid (sumR (foldE (twoF 2) V ((numsV R).drop (j + 1))) = (⟨k, i, t⟩, e0)) := by rw [foldE_go HE0.out] at HD; exact HD
            clear HD
            go_wp2_with (go_at_call 41; refine (two_any ⟨#[45]⟩ m u.i V 0 _ (by decide) HM2.out Hu.out HE0.out).mono ?_; rintro e w1 ⟨rfl, rfl⟩)
            go_round
            case rel => exact ⟨j + 1, V, by omega, by go_num, rfl, HVi, HD2⟩
            case measure => simp [intOf]; omega
          · have d0 : (E != 0) = true := by simpa using h0
            have HE : Hid (((⟨0, 0, ⟨#[]⟩⟩ : Val), E) = (⟨k, i, t⟩, e0)) := by rw [foldE_no HE0.out h0, sumR_no h0] at HD; exact HD
            obtain ⟨⟨p0, p1, p2⟩, pf⟩ := HX1.out
            clear HD h0
            go_wp2_with (go_at_call 41; refine (two_any ⟨#[45]⟩ m u.i V E _ (by decide) HM2.out Hu.out HE0.out).mono ?_; rintro e w1 ⟨rfl, rfl⟩)
            refine bodyPost_ret (v := .tuple #[.agg #[.int .i64 (0), .int .i64 (0), .string (⟨#[]⟩)], .int .i64 E]) (by simp [results, Tryd.results30, go_sem, *]) rfl ⟨ret_ve HE.out, ?_⟩
            exact set3 HW1.out _ _ _
        · have hki2 : ¬ (j : Int) + 1 < ((N : Nat) : Int) := by omega
          have HE : Hid (((⟨1, m, ⟨#[]⟩⟩ : Val), (0 : Int)) = (⟨k, i, t⟩, e0)) := by
            have h := HF2.out
            rw [List.drop_eq_nil_of_le (by rw [numsV_len]; have := HM.out; omega), foldE_nil, sumR_yes] at h
            exact h
          have z1 : Hid (B ≤ W1.heap.size) := Nat.le_of_lt HX1.out.lt
          go_wp2_with fail
          refine (rint_any m _).mono ?_
          rintro e w3 ⟨rfl, hb3⟩
          obtain ⟨⟨p0, p1, p2⟩, pf⟩ := HX1.out.next hb3
          have b3 : Hid (Below B w w3) := below_next HW1.out hb3 z1.out
          clear hb3 z1
          go_wp2
          refine bodyPost_ret (v := .tuple #[.agg #[.int .i64 (1), .int .i64 (m), .string (⟨#[]⟩)], .int .i64 0]) (by simp [results, Tryd.results30, go_sem, *]) rfl ⟨ret_ve HE.out, ?_⟩
          exact set3 b3.out _ _ _

set_option maxHeartbeats 4000000 in
set_option maxRecDepth 4000 in
theorem rnums_c (k i e0 : Int) (t : ByteArray) (ao : Option Addr) (cap N B : Nat) (L : List Val) (w : World) (hB : w.heap.size = B) (hN : L.length = N) (hv : IsVals w ao L) (hm : N ≤ 1000) (z : Val) (R : List Val) (hL : L = z :: R) (hl : ∀ v ∈ L, inB v.i = true) (hA : allInt L = true) (h0 : ¬ z.i < 0) (hr : sumR (foldE (twoF 9) z.i (numsV R)) = (⟨k, i, t⟩, e0)) :
    Calls Tryd.prog 30 #[.string ⟨#[97, 98, 115]⟩, .slice ao N cap] w fun e w' => e = .returned (.tuple #[.agg #[.int .i64 (k), .int .i64 (i), .string (t)], .int .i64 e0]) ∧ Below B w w' := by
  have HB : Hid (w.heap.size = B) := hB
  have HV : Hid (IsVals (w.alloc (.cells #[.int .i64 0, .int .i64 0, .string ⟨#[]⟩] 26)) ao L) := hv.next (alloc_below' _ _)
  have HN : Hid (L.length = N) := hN
  have HX0 : Hid (Box0 B (w.alloc (.cells #[.int .i64 0, .int .i64 0, .string ⟨#[]⟩] 26))) := Box0.made hB
  have HW0 : Hid (Below B w (w.alloc (.cells #[.int .i64 0, .int .i64 0, .string ⟨#[]⟩] 26))) := by rw [Hid, ← hB]; exact alloc_below' _ _
  clear hv hN hB
  subst hL
  have hn1 : 1 ≤ N := by rw [← HN.out, List.length_cons]; omega
  have hk1 : (1 : Int) ≤ (N : Int) := by omega
  have HF : Hid (sumR (foldE (twoF 9) z.i (numsV R)) = (⟨k, i, t⟩, e0)) := hr
  have HL : Hid (∀ v ∈ z :: R, inB v.i = true) := hl
  clear hr hl
  go_enter Tryd.func30, Tryd.ntmps30
  go_wp2
  rw [HB.out]
  obtain ⟨W, HWe⟩ : ∃ W, W = (w.alloc (.cells #[.int .i64 0, .int .i64 0, .string ⟨#[]⟩] 26)) := ⟨_, rfl⟩
  rw [← HWe] at HV HX0 HW0 ⊢
  clear HWe
  go_loop [6] (fun i => ∃ k : Nat, k ≤ N ∧ i = .int .i64 k ∧ Hid (allInt ((z :: R).take k) = true)) (fun i => N - (intOf i).toNat)
  case atStart => exact ⟨0, Nat.zero_le _, rfl, rfl⟩
  case round =>
    obtain ⟨n, hn, rfl, HA⟩ := hrel
    by_cases hlt : n < N
    · have hki : (n : Int) < (N : Int) := by omega
      obtain ⟨v, HG⟩ : ∃ v, Hid ((z :: R)[n]? = some v) := ⟨_, List.getElem?_eq_getElem (by rw [HN.out]; exact hlt)⟩
      obtain ⟨b, o, rfl, c0, c1, c2⟩ := HV.out n v HG.out
      by_cases h1 : v.k = 1
      · have HA2 : Hid (allInt ((z :: R).take (n + 1)) = true) := by rw [Hid, allInt_take HG.out, HA.out, decide_eq_true h1]; rfl
        have d1 : (v.k != 1) = false := by simpa using h1
        clear h1
        go_wp2
        go_round
        case rel => exact ⟨n + 1, by omega, by go_num, HA2⟩
        case measure => simp [intOf]; omega
      · have HA2 : allInt (z :: R) = false := allInt_no (n := n + 1) (by rw [allInt_take HG.out, decide_eq_false h1]; simp)
        exact absurd (hA.symm.trans HA2) (by decide)
    · have hki : ¬ (n : Int) < (N : Int) := by omega
      clear hlt hn HA
      obtain ⟨bb, oo, rfl, a0, a1, a2⟩ := first_val HV.out
      obtain ⟨W1, HWe⟩ : ∃ W1, W1 = W := ⟨_, rfl⟩
      rw [← HWe] at HV HX0 HW0 a0 a1 a2 ⊢
      clear HWe
      have HI : Hid (IsVals W1 (some ⟨bb, oo, none⟩) (z :: R)) := HV
      have HX1 : Hid (Box0 B W1) := HX0
      have HW1 : Hid (Below B w W1) := HW0
      have HM : Hid (R.length + 1 = N) := by rw [Hid, ← HN.out]; rfl
      have HIz : Hid (inB z.i = true) := HL.out z (by simp)
      have HIr : Hid (∀ v ∈ R, inB v.i = true) := fun v h => HL.out v (by simp [h])
      clear HV HX0 HW0 a0 a2
      go_wp2
      go_loop [9, 10] (fun x y => ∃ (j : Nat) (m : Int), j + 1 ≤ N ∧ y = .int .i64 ((j : Int) + 1) ∧ x = .int .i64 m ∧ Hid (inB m = true) ∧ Hid (sumR (foldE (twoF 9) m ((numsV R).drop j)) = (⟨k, i, t⟩, e0))) (fun _ y => N - (intOf y).toNat)
      case atStart => exact ⟨0, z.i, by omega, rfl, rfl, HIz, HF⟩
      case round =>
        obtain ⟨j, m, hj, rfl, rfl, HM2, HF2⟩ := hrel
        clear HF HIz
        by_cases hlt : j + 1 < N
        · have hki2 : (j : Int) + 1 < ((N : Nat) : Int) := by omega
          obtain ⟨u, HG⟩ : ∃ u, Hid (R[j]? = some u) := ⟨_, List.getElem?_eq_getElem (by have := HM.out; omega)⟩
          obtain ⟨b', o', hbo, c0, c1, c2⟩ := HI.out (j + 1) u HG.out
          obtain ⟨rfl, rfl⟩ : b' = bb ∧ o' = oo := by injection hbo with h; injection h with h1 h2; exact ⟨h1.symm, h2.symm⟩
          have Hu : Hid (inB u.i = true) := vals_in HIr.out HG.out
          have HD := HF2.out
          rw [drop_at (numsV_get HG.out)] at HD
          obtain ⟨V, E, HE0⟩ : ∃ V E, Hid (twoF 9 m u.i = (V, E)) := ⟨_, _, rfl⟩
          have HVi : Hid (inB V = true) := by have := twoF_in 9 m u.i HM2.out Hu.out; rw [HE0.out] at this; exact this
          clear hbo c0 c2
          by_cases h0 : E = 0
          · subst h0
            have HD2 : Hid (sumR (foldE (twoF 9) V ((numsV R).drop (j + 1))) = (⟨k, i, t⟩, e0)) := by rw [foldE_go HE0.out] at HD; exact HD
            clear HD
            go_wp2_with (go_at_call 41; refine (two_any ⟨#[97, 98, 115]⟩ m u.i V 0 _ (by decide) HM2.out Hu.out HE0.out).mono ?_; rintro e w1 ⟨rfl, rfl⟩)
            go_round
            case rel => exact ⟨j + 1, V, by omega, by go_num, rfl, HVi, HD2⟩
            case measure => simp [intOf]; omega
          · have d0 : (E != 0) = true := by simpa using h0
            have HE : Hid (((⟨0, 0, ⟨#[]⟩⟩ : Val), E) = (⟨k, i, t⟩, e0)) := by rw [foldE_no HE0.out h0, sumR_no h0] at HD; exact HD
            obtain ⟨⟨p0, p1, p2⟩, pf⟩ := HX1.out
            clear HD h0
            go_wp2_with (go_at_call 41; refine (two_any ⟨#[97, 98, 115]⟩ m u.i V E _ (by decide) HM2.out Hu.out HE0.out).mono ?_; rintro e w1 ⟨rfl, rfl⟩)
            refine bodyPost_ret (v := .tuple #[.agg #[.int .i64 (0), .int .i64 (0), .string (⟨#[]⟩)], .int .i64 E]) (by simp [results, Tryd.results30, go_sem, *]) rfl ⟨ret_ve HE.out, ?_⟩
            exact set3 HW1.out _ _ _
        · have hki2 : ¬ (j : Int) + 1 < ((N : Nat) : Int) := by omega
          have HE : Hid (((⟨1, m, ⟨#[]⟩⟩ : Val), (0 : Int)) = (⟨k, i, t⟩, e0)) := by
            have h := HF2.out
            rw [List.drop_eq_nil_of_le (by rw [numsV_len]; have := HM.out; omega), foldE_nil, sumR_yes] at h
            exact h
          have z1 : Hid (B ≤ W1.heap.size) := Nat.le_of_lt HX1.out.lt
          go_wp2_with fail
          refine (rint_any m _).mono ?_
          rintro e w3 ⟨rfl, hb3⟩
          obtain ⟨⟨p0, p1, p2⟩, pf⟩ := HX1.out.next hb3
          have b3 : Hid (Below B w w3) := below_next HW1.out hb3 z1.out
          clear hb3 z1
          go_wp2
          refine bodyPost_ret (v := .tuple #[.agg #[.int .i64 (1), .int .i64 (m), .string (⟨#[]⟩)], .int .i64 0]) (by simp [results, Tryd.results30, go_sem, *]) rfl ⟨ret_ve HE.out, ?_⟩
          exact set3 b3.out _ _ _

set_option maxHeartbeats 4000000 in
set_option maxRecDepth 4000 in
theorem rnums_d (k i e0 : Int) (t : ByteArray) (ao : Option Addr) (cap N B : Nat) (L : List Val) (w : World) (hB : w.heap.size = B) (hN : L.length = N) (hv : IsVals w ao L) (hm : N ≤ 1000) (z : Val) (hL : L = [z]) (hl : ∀ v ∈ L, inB v.i = true) (hA : allInt L = true) (h0 : z.i < 0) (hr : sumR (foldE (twoF 9) 0 (numsV [z])) = (⟨k, i, t⟩, e0)) :
    Calls Tryd.prog 30 #[.string ⟨#[97, 98, 115]⟩, .slice ao N cap] w fun e w' => e = .returned (.tuple #[.agg #[.int .i64 (k), .int .i64 (i), .string (t)], .int .i64 e0]) ∧ Below B w w' := by
  have HB : Hid (w.heap.size = B) := hB
  have HV : Hid (IsVals (w.alloc (.cells #[.int .i64 0, .int .i64 0, .string ⟨#[]⟩] 26)) ao L) := hv.next (alloc_below' _ _)
  have HN : Hid (L.length = N) := hN
  have HX0 : Hid (Box0 B (w.alloc (.cells #[.int .i64 0, .int .i64 0, .string ⟨#[]⟩] 26))) := Box0.made hB
  have HW0 : Hid (Below B w (w.alloc (.cells #[.int .i64 0, .int .i64 0, .string ⟨#[]⟩] 26))) := by rw [Hid, ← hB]; exact alloc_below' _ _
  clear hv hN hB
  subst hL
  have hn1 : N = 1 := by rw [← HN.out]; rfl
  have hk1 : (1 : Int) ≤ (N : Int) := by omega
  have hke : ((N : Int) == 1) = true := by rw [hn1]; rfl
  have Hn1 : Hid (N = 1) := hn1
  clear hn1
  have HF : Hid (sumR (foldE (twoF 9) 0 (numsV [z])) = (⟨k, i, t⟩, e0)) := hr
  have HL : Hid (∀ v ∈ [z], inB v.i = true) := hl
  clear hr hl
  go_enter Tryd.func30, Tryd.ntmps30
  go_wp2
  rw [HB.out]
  obtain ⟨W, HWe⟩ : ∃ W, W = (w.alloc (.cells #[.int .i64 0, .int .i64 0, .string ⟨#[]⟩] 26)) := ⟨_, rfl⟩
  rw [← HWe] at HV HX0 HW0 ⊢
  clear HWe
  go_loop [6] (fun i => ∃ k : Nat, k ≤ N ∧ i = .int .i64 k ∧ Hid (allInt ([z].take k) = true)) (fun i => N - (intOf i).toNat)
  case atStart => exact ⟨0, Nat.zero_le _, rfl, rfl⟩
  case round =>
    obtain ⟨n, hn, rfl, HA⟩ := hrel
    by_cases hlt : n < N
    · have hki : (n : Int) < (N : Int) := by omega
      obtain ⟨v, HG⟩ : ∃ v, Hid ([z][n]? = some v) := ⟨_, List.getElem?_eq_getElem (by rw [HN.out]; exact hlt)⟩
      obtain ⟨b, o, rfl, c0, c1, c2⟩ := HV.out n v HG.out
      by_cases h1 : v.k = 1
      · have HA2 : Hid (allInt ([z].take (n + 1)) = true) := by rw [Hid, allInt_take HG.out, HA.out, decide_eq_true h1]; rfl
        have d1 : (v.k != 1) = false := by simpa using h1
        clear h1
        go_wp2
        go_round
        case rel => exact ⟨n + 1, by omega, by go_num, HA2⟩
        case measure => simp [intOf]; omega
      · have HA2 : allInt [z] = false := allInt_no (n := n + 1) (by rw [allInt_take HG.out, decide_eq_false h1]; simp)
        exact absurd (hA.symm.trans HA2) (by decide)
    · have hki : ¬ (n : Int) < (N : Int) := by omega
      clear hlt hn HA
      obtain ⟨b0, o0, rfl, a0, a1, a2⟩ := first_val HV.out
      have f0 : W.drew.cell? ⟨b0, o0, none⟩ = some (.int .i64 z.k) := a0
      have f1 : W.drew.cell? ⟨b0, o0 + 1, none⟩ = some (.int .i64 z.i) := a1
      have f2 : W.drew.cell? ⟨b0, o0 + 2, none⟩ = some (.string z.s) := a2
      go_wp2
      go_region_with (first
        | (go_at_call 20; refine (rint_any 0 _).mono ?_; rintro e w1 ⟨rfl, hb1⟩; have g0 := keep_cell hb1 f0; have g1 := keep_cell hb1 f1; have g2 := keep_cell hb1 f2))
      all_goals
        have hbW := below_undrew hb1
        obtain ⟨bb, Hbb⟩ : ∃ bb, w1.heap.size = bb := ⟨_, rfl⟩
        obtain ⟨W1, HWe⟩ : ∃ W1, W1 = w1.alloc (.cells #[.int .i64 1, .int .i64 0, .string ⟨#[]⟩, .int .i64 z.k, .int .i64 z.i, .string z.s] 26) := ⟨_, rfl⟩
        have hbW1 : Below W.heap.size W W1 := by rw [HWe]; exact next_trans' hbW (alloc_below' _ _)
        have HI0 : IsVals W1 (some ⟨bb, 0, none⟩) [⟨1, 0, ⟨#[]⟩⟩, z] := by rw [HWe]; exact lit_vals2 w1 bb ⟨1, 0, ⟨#[]⟩⟩ z Hbb.symm
        obtain ⟨b9, o9, hbo9, q0, q1, q2⟩ := first_val HI0
        obtain ⟨rfl, rfl⟩ : b9 = bb ∧ o9 = 0 := by injection hbo9 with h; injection h with h1 h2; exact ⟨h1.symm, h2.symm⟩
        have HI : Hid (IsVals W1 (some ⟨b9, 0, none⟩) [⟨1, 0, ⟨#[]⟩⟩, z]) := HI0
        have HX1 : Hid (Box0 B W1) := HX0.out.next hbW1
        have HW1 : Hid (Below B w W1) := below_next HW0.out hbW1 (Nat.le_of_lt HX0.out.lt)
        have HM : Hid ([z].length + 1 = 2) := rfl
        have HIz : Hid (inB 0 = true) := by rw [Hid]; decide
        have HIr : Hid (∀ v ∈ [z], inB v.i = true) := fun v h => HL.out v h
        rw [← HWe, Hbb]
        clear hbW hbW1 HI0 hbo9 HV HX0 HW0 hb1 HWe Hbb g0 g1 g2 f0 f1 f2 a0 a1 a2 q0 q2
        go_wp2
        go_loop [9, 10] (fun x y => ∃ (j : Nat) (m : Int), j + 1 ≤ 2 ∧ y = .int .i64 ((j : Int) + 1) ∧ x = .int .i64 m ∧ Hid (inB m = true) ∧ Hid (sumR (foldE (twoF 9) m ((numsV [z]).drop j)) = (⟨k, i, t⟩, e0))) (fun _ y => 2 - (intOf y).toNat)
        case atStart => exact ⟨0, 0, by omega, rfl, rfl, HIz, HF⟩
        case round =>
          obtain ⟨j, m, hj, rfl, rfl, HM2, HF2⟩ := hrel
          clear HF HIz
          by_cases hlt : j + 1 < 2
          · have hki2 : (j : Int) + 1 < ((2 : Nat) : Int) := by omega
            obtain ⟨u, HG⟩ : ∃ u, Hid ([z][j]? = some u) := ⟨_, List.getElem?_eq_getElem (by have := HM.out; omega)⟩
            obtain ⟨b', o', hbo, c0, c1, c2⟩ := HI.out (j + 1) u HG.out
            obtain ⟨rfl, rfl⟩ : b' = b9 ∧ o' = 0 := by injection hbo with h; injection h with h1 h2; exact ⟨h1.symm, h2.symm⟩
            have Hu : Hid (inB u.i = true) := vals_in HIr.out HG.out
            have HD := HF2.out
            rw [drop_at (numsV_get HG.out)] at HD
            obtain ⟨V, E, HE0⟩ : ∃ V E, Hid (twoF 9 m u.i = (V, E)) := ⟨_, _, rfl⟩
            have HVi : Hid (inB V = true) := by have := twoF_in 9 m u.i HM2.out Hu.out; rw [HE0.out] at this; exact this
            simp only [Nat.zero_add] at c1
            clear hbo c0 c2
            by_cases h0 : E = 0
            · subst h0
              have HD2 : Hid (sumR (foldE (twoF 9) V ((numsV [z]).drop (j + 1))) = (⟨k, i, t⟩, e0)) := by rw [foldE_go HE0.out] at HD; exact HD
              clear HD
              go_wp2_with (go_at_call 41; refine (two_any ⟨#[97, 98, 115]⟩ m u.i V 0 _ (by decide) HM2.out Hu.out HE0.out).mono ?_; rintro e w1 ⟨rfl, rfl⟩)
              go_round
              case rel => exact ⟨j + 1, V, by omega, by go_num, rfl, HVi, HD2⟩
              case measure => simp [intOf]; omega
            · have d0 : (E != 0) = true := by simpa using h0
              have HE : Hid (((⟨0, 0, ⟨#[]⟩⟩ : Val), E) = (⟨k, i, t⟩, e0)) := by rw [foldE_no HE0.out h0, sumR_no h0] at HD; exact HD
              obtain ⟨⟨p0, p1, p2⟩, pf⟩ := HX1.out
              clear HD h0
              go_wp2_with (go_at_call 41; refine (two_any ⟨#[97, 98, 115]⟩ m u.i V E _ (by decide) HM2.out Hu.out HE0.out).mono ?_; rintro e w1 ⟨rfl, rfl⟩)
              refine bodyPost_ret (v := .tuple #[.agg #[.int .i64 (0), .int .i64 (0), .string (⟨#[]⟩)], .int .i64 E]) (by simp [results, Tryd.results30, go_sem, *]) rfl ⟨ret_ve HE.out, ?_⟩
              exact set3 HW1.out _ _ _
          · have hki2 : ¬ (j : Int) + 1 < ((2 : Nat) : Int) := by omega
            have HE : Hid (((⟨1, m, ⟨#[]⟩⟩ : Val), (0 : Int)) = (⟨k, i, t⟩, e0)) := by
              have h := HF2.out
              rw [List.drop_eq_nil_of_le (by rw [numsV_len]; have := HM.out; omega), foldE_nil, sumR_yes] at h
              exact h
            have z1 : Hid (B ≤ W1.heap.size) := Nat.le_of_lt HX1.out.lt
            go_wp2_with fail
            refine (rint_any m _).mono ?_
            rintro e w3 ⟨rfl, hb3⟩
            obtain ⟨⟨p0, p1, p2⟩, pf⟩ := HX1.out.next hb3
            have b3 : Hid (Below B w w3) := below_next HW1.out hb3 z1.out
            clear hb3 z1
            go_wp2
            refine bodyPost_ret (v := .tuple #[.agg #[.int .i64 (1), .int .i64 (m), .string (⟨#[]⟩)], .int .i64 0]) (by simp [results, Tryd.results30, go_sem, *]) rfl ⟨ret_ve HE.out, ?_⟩
            exact set3 b3.out _ _ _

set_option maxHeartbeats 4000000 in
set_option maxRecDepth 4000 in
theorem rnums_e (k i e0 : Int) (t : ByteArray) (ao : Option Addr) (cap N B : Nat) (L : List Val) (w : World) (hB : w.heap.size = B) (hN : L.length = N) (hv : IsVals w ao L) (hm : N ≤ 1000) (z : Val) (hL : L = [z]) (hl : ∀ v ∈ L, inB v.i = true) (hA : allInt L = true)  (hr : sumR (foldE (twoF 2) 0 (numsV [z])) = (⟨k, i, t⟩, e0)) :
    Calls Tryd.prog 30 #[.string ⟨#[45]⟩, .slice ao N cap] w fun e w' => e = .returned (.tuple #[.agg #[.int .i64 (k), .int .i64 (i), .string (t)], .int .i64 e0]) ∧ Below B w w' := by
  have HB : Hid (w.heap.size = B) := hB
  have HV : Hid (IsVals (w.alloc (.cells #[.int .i64 0, .int .i64 0, .string ⟨#[]⟩] 26)) ao L) := hv.next (alloc_below' _ _)
  have HN : Hid (L.length = N) := hN
  have HX0 : Hid (Box0 B (w.alloc (.cells #[.int .i64 0, .int .i64 0, .string ⟨#[]⟩] 26))) := Box0.made hB
  have HW0 : Hid (Below B w (w.alloc (.cells #[.int .i64 0, .int .i64 0, .string ⟨#[]⟩] 26))) := by rw [Hid, ← hB]; exact alloc_below' _ _
  clear hv hN hB
  subst hL
  have hn1 : N = 1 := by rw [← HN.out]; rfl
  have hk1 : (1 : Int) ≤ (N : Int) := by omega
  have hke : ((N : Int) == 1) = true := by rw [hn1]; rfl
  have Hn1 : Hid (N = 1) := hn1
  clear hn1
  have HF : Hid (sumR (foldE (twoF 2) 0 (numsV [z])) = (⟨k, i, t⟩, e0)) := hr
  have HL : Hid (∀ v ∈ [z], inB v.i = true) := hl
  clear hr hl
  go_enter Tryd.func30, Tryd.ntmps30
  go_wp2
  rw [HB.out]
  obtain ⟨W, HWe⟩ : ∃ W, W = (w.alloc (.cells #[.int .i64 0, .int .i64 0, .string ⟨#[]⟩] 26)) := ⟨_, rfl⟩
  rw [← HWe] at HV HX0 HW0 ⊢
  clear HWe
  go_loop [6] (fun i => ∃ k : Nat, k ≤ N ∧ i = .int .i64 k ∧ Hid (allInt ([z].take k) = true)) (fun i => N - (intOf i).toNat)
  case atStart => exact ⟨0, Nat.zero_le _, rfl, rfl⟩
  case round =>
    obtain ⟨n, hn, rfl, HA⟩ := hrel
    by_cases hlt : n < N
    · have hki : (n : Int) < (N : Int) := by omega
      obtain ⟨v, HG⟩ : ∃ v, Hid ([z][n]? = some v) := ⟨_, List.getElem?_eq_getElem (by rw [HN.out]; exact hlt)⟩
      obtain ⟨b, o, rfl, c0, c1, c2⟩ := HV.out n v HG.out
      by_cases h1 : v.k = 1
      · have HA2 : Hid (allInt ([z].take (n + 1)) = true) := by rw [Hid, allInt_take HG.out, HA.out, decide_eq_true h1]; rfl
        have d1 : (v.k != 1) = false := by simpa using h1
        clear h1
        go_wp2
        go_round
        case rel => exact ⟨n + 1, by omega, by go_num, HA2⟩
        case measure => simp [intOf]; omega
      · have HA2 : allInt [z] = false := allInt_no (n := n + 1) (by rw [allInt_take HG.out, decide_eq_false h1]; simp)
        exact absurd (hA.symm.trans HA2) (by decide)
    · have hki : ¬ (n : Int) < (N : Int) := by omega
      clear hlt hn HA
      obtain ⟨b0, o0, rfl, a0, a1, a2⟩ := first_val HV.out
      have f0 : W.drew.cell? ⟨b0, o0, none⟩ = some (.int .i64 z.k) := a0
      have f1 : W.drew.cell? ⟨b0, o0 + 1, none⟩ = some (.int .i64 z.i) := a1
      have f2 : W.drew.cell? ⟨b0, o0 + 2, none⟩ = some (.string z.s) := a2
      go_wp2
      go_region_with (first
        | (go_at_call 20; refine (rint_any 0 _).mono ?_; rintro e w1 ⟨rfl, hb1⟩; have g0 := keep_cell hb1 f0; have g1 := keep_cell hb1 f1; have g2 := keep_cell hb1 f2))
      all_goals
        have hbW := below_undrew hb1
        obtain ⟨bb, Hbb⟩ : ∃ bb, w1.heap.size = bb := ⟨_, rfl⟩
        obtain ⟨W1, HWe⟩ : ∃ W1, W1 = w1.alloc (.cells #[.int .i64 1, .int .i64 0, .string ⟨#[]⟩, .int .i64 z.k, .int .i64 z.i, .string z.s] 26) := ⟨_, rfl⟩
        have hbW1 : Below W.heap.size W W1 := by rw [HWe]; exact next_trans' hbW (alloc_below' _ _)
        have HI0 : IsVals W1 (some ⟨bb, 0, none⟩) [⟨1, 0, ⟨#[]⟩⟩, z] := by rw [HWe]; exact lit_vals2 w1 bb ⟨1, 0, ⟨#[]⟩⟩ z Hbb.symm
        obtain ⟨b9, o9, hbo9, q0, q1, q2⟩ := first_val HI0
        obtain ⟨rfl, rfl⟩ : b9 = bb ∧ o9 = 0 := by injection hbo9 with h; injection h with h1 h2; exact ⟨h1.symm, h2.symm⟩
        have HI : Hid (IsVals W1 (some ⟨b9, 0, none⟩) [⟨1, 0, ⟨#[]⟩⟩, z]) := HI0
        have HX1 : Hid (Box0 B W1) := HX0.out.next hbW1
        have HW1 : Hid (Below B w W1) := below_next HW0.out hbW1 (Nat.le_of_lt HX0.out.lt)
        have HM : Hid ([z].length + 1 = 2) := rfl
        have HIz : Hid (inB 0 = true) := by rw [Hid]; decide
        have HIr : Hid (∀ v ∈ [z], inB v.i = true) := fun v h => HL.out v h
        rw [← HWe, Hbb]
        clear hbW hbW1 HI0 hbo9 HV HX0 HW0 hb1 HWe Hbb g0 g1 g2 f0 f1 f2 a0 a1 a2 q0 q2
        go_wp2
        go_loop [9, 10] (fun x y => ∃ (j : Nat) (m : Int), j + 1 ≤ 2 ∧ y = .int .i64 ((j : Int) + 1) ∧ x = .int .i64 m ∧ Hid (inB m = true) ∧ Hid (sumR (foldE (twoF 2) m ((numsV [z]).drop j)) = (⟨k, i, t⟩, e0))) (fun _ y => 2 - (intOf y).toNat)
        case atStart => exact ⟨0, 0, by omega, rfl, rfl, HIz, HF⟩
        case round =>
          obtain ⟨j, m, hj, rfl, rfl, HM2, HF2⟩ := hrel
          clear HF HIz
          by_cases hlt : j + 1 < 2
          · have hki2 : (j : Int) + 1 < ((2 : Nat) : Int) := by omega
            obtain ⟨u, HG⟩ : ∃ u, Hid ([z][j]? = some u) := ⟨_, List.getElem?_eq_getElem (by have := HM.out; omega)⟩
            obtain ⟨b', o', hbo, c0, c1, c2⟩ := HI.out (j + 1) u HG.out
            obtain ⟨rfl, rfl⟩ : b' = b9 ∧ o' = 0 := by injection hbo with h; injection h with h1 h2; exact ⟨h1.symm, h2.symm⟩
            have Hu : Hid (inB u.i = true) := vals_in HIr.out HG.out
            have HD := HF2.out
            rw [drop_at (numsV_get HG.out)] at HD
            obtain ⟨V, E, HE0⟩ : ∃ V E, Hid (twoF 2 m u.i = (V, E)) := ⟨_, _, rfl⟩
            have HVi : Hid (inB V = true) := by have := twoF_in 2 m u.i HM2.out Hu.out; rw [HE0.out] at this; exact this
            simp only [Nat.zero_add] at c1
            clear hbo c0 c2
            by_cases h0 : E = 0
            · subst h0
              have HD2 : Hid (sumR (foldE (twoF 2) V ((numsV [z]).drop (j + 1))) = (⟨k, i, t⟩, e0)) := by rw [foldE_go HE0.out] at HD; exact HD
              clear HD
              go_wp2_with (go_at_call 41; refine (two_any ⟨#[45]⟩ m u.i V 0 _ (by decide) HM2.out Hu.out HE0.out).mono ?_; rintro e w1 ⟨rfl, rfl⟩)
              go_round
              case rel => exact ⟨j + 1, V, by omega, by go_num, rfl, HVi, HD2⟩
              case measure => simp [intOf]; omega
            · have d0 : (E != 0) = true := by simpa using h0
              have HE : Hid (((⟨0, 0, ⟨#[]⟩⟩ : Val), E) = (⟨k, i, t⟩, e0)) := by rw [foldE_no HE0.out h0, sumR_no h0] at HD; exact HD
              obtain ⟨⟨p0, p1, p2⟩, pf⟩ := HX1.out
              clear HD h0
              go_wp2_with (go_at_call 41; refine (two_any ⟨#[45]⟩ m u.i V E _ (by decide) HM2.out Hu.out HE0.out).mono ?_; rintro e w1 ⟨rfl, rfl⟩)
              refine bodyPost_ret (v := .tuple #[.agg #[.int .i64 (0), .int .i64 (0), .string (⟨#[]⟩)], .int .i64 E]) (by simp [results, Tryd.results30, go_sem, *]) rfl ⟨ret_ve HE.out, ?_⟩
              exact set3 HW1.out _ _ _
          · have hki2 : ¬ (j : Int) + 1 < ((2 : Nat) : Int) := by omega
            have HE : Hid (((⟨1, m, ⟨#[]⟩⟩ : Val), (0 : Int)) = (⟨k, i, t⟩, e0)) := by
              have h := HF2.out
              rw [List.drop_eq_nil_of_le (by rw [numsV_len]; have := HM.out; omega), foldE_nil, sumR_yes] at h
              exact h
            have z1 : Hid (B ≤ W1.heap.size) := Nat.le_of_lt HX1.out.lt
            go_wp2_with fail
            refine (rint_any m _).mono ?_
            rintro e w3 ⟨rfl, hb3⟩
            obtain ⟨⟨p0, p1, p2⟩, pf⟩ := HX1.out.next hb3
            have b3 : Hid (Below B w w3) := below_next HW1.out hb3 z1.out
            clear hb3 z1
            go_wp2
            refine bodyPost_ret (v := .tuple #[.agg #[.int .i64 (1), .int .i64 (m), .string (⟨#[]⟩)], .int .i64 0]) (by simp [results, Tryd.results30, go_sem, *]) rfl ⟨ret_ve HE.out, ?_⟩
            exact set3 b3.out _ _ _

end Go.Proofs.YtfglmfldpmpofaaDoor
