/- The reference's numbers at + and *, and all together. -/
import Derived.Test.YtfglmfldpmpofaaDoorBtRnum2
namespace Go.Proofs.YtfglmfldpmpofaaDoor
open Go.RowKit

/-- An append whose run is known. -/
theorem wpList_append_run (w : World) {ops : Array Oper} {rest : List Oper} {o : Oper} {a : Act} {Q : Exit → Act → World → Prop} (hgd : o.guard = none) (s x : Operand) (t : TypeId)
    (ho : o.op = .call { callee := .builtin .append, args := #[s, x], argTypes := #[t, t] }) (v xv v' : Value) (w' : World) (hs : a.eval s = v) (hx : a.eval x = xv)
    (hr : (Builtin.append_ #[t, t] o.type #[v, xv]).run Tryd.prog w = .ok v' w') (h : wpList Tryd.prog ops Q rest (a.put o.dst v') w') : wpList Tryd.prog ops Q (o :: rest) a w :=
  wpList_plain hgd fun _ hK => by
    unfold Oper.wp execOp
    simp only [ho, resolve, invoke, builtin, Sem.run_bind, Sem.run_pure, Result.andThen_ok, List.map_toArray, List.map_cons, List.map_nil, hs, hx, hr]
    exact hK _ _ h

set_option maxHeartbeats 4000000 in
set_option maxRecDepth 4000 in
theorem rnums_f (k i e0 : Int) (t : ByteArray) (ao : Option Addr) (cap N B : Nat) (L : List Val) (w : World) (hB : w.heap.size = B) (hN : L.length = N) (hv : IsVals w ao L) (hm : N ≤ 1000) (hcp : ao = none → N = 0 ∧ cap = 0) (hl : ∀ v ∈ L, inB v.i = true) (hA : allInt L = true) (hr : sumR (foldE (twoF 1) 0 (numsV L)) = (⟨k, i, t⟩, e0)) :
    Calls Tryd.prog 30 #[.string ⟨#[43]⟩, .slice ao N cap] w fun e w' => e = .returned (.tuple #[.agg #[.int .i64 (k), .int .i64 (i), .string (t)], .int .i64 e0]) ∧ Below B w w' := by
  have HB : Hid (w.heap.size = B) := hB
  have HV : Hid (IsVals (w.alloc (.cells #[.int .i64 0, .int .i64 0, .string ⟨#[]⟩] 26)) ao L) := hv.next (alloc_below' _ _)
  have HN : Hid (L.length = N) := hN
  have HX0 : Hid (Box0 B (w.alloc (.cells #[.int .i64 0, .int .i64 0, .string ⟨#[]⟩] 26))) := Box0.made hB
  have HW0 : Hid (Below B w (w.alloc (.cells #[.int .i64 0, .int .i64 0, .string ⟨#[]⟩] 26))) := by rw [Hid, ← hB]; exact alloc_below' _ _
  clear hv hN hB
  have HF : Hid (sumR (foldE (twoF 1) 0 (numsV L)) = (⟨k, i, t⟩, e0)) := hr
  have HL : Hid (∀ v ∈ L, inB v.i = true) := hl
  have HCp : Hid (ao = none → N = 0 ∧ cap = 0) := hcp
  clear hr hl hcp
  go_enter Tryd.func30, Tryd.ntmps30
  go_wp2
  rw [HB.out]
  obtain ⟨W, HWe⟩ : ∃ W, W = (w.alloc (.cells #[.int .i64 0, .int .i64 0, .string ⟨#[]⟩] 26)) := ⟨_, rfl⟩
  rw [← HWe] at HV HX0 HW0 ⊢
  clear HWe
  go_loop [6] (fun i => ∃ k : Nat, k ≤ N ∧ i = .int .i64 k ∧ Hid (allInt (L.take k) = true)) (fun i => N - (intOf i).toNat)
  case atStart => exact ⟨0, Nat.zero_le _, rfl, rfl⟩
  case round =>
    obtain ⟨n, hn, rfl, HA⟩ := hrel
    by_cases hlt : n < N
    · have hki : (n : Int) < (N : Int) := by omega
      obtain ⟨v, HG⟩ : ∃ v, Hid (L[n]? = some v) := ⟨_, List.getElem?_eq_getElem (by rw [HN.out]; exact hlt)⟩
      obtain ⟨b, o, rfl, c0, c1, c2⟩ := HV.out n v HG.out
      by_cases h1 : v.k = 1
      · have HA2 : Hid (allInt (L.take (n + 1)) = true) := by rw [Hid, allInt_take HG.out, HA.out, decide_eq_true h1]; rfl
        have d1 : (v.k != 1) = false := by simpa using h1
        clear h1
        go_wp2
        go_round
        case rel => exact ⟨n + 1, by omega, by go_num, HA2⟩
        case measure => simp [intOf]; omega
      · have HA2 : allInt L = false := allInt_no (n := n + 1) (by rw [allInt_take HG.out, decide_eq_false h1]; simp)
        exact absurd (hA.symm.trans HA2) (by decide)
    · have hki : ¬ (n : Int) < (N : Int) := by omega
      clear hlt hn HA
      go_wp2_with fail
      refine (rint_any 0 _).mono ?_
      rintro e w1 ⟨rfl, hb1⟩
      obtain ⟨bb, Hbb⟩ : ∃ bb, w1.heap.size = bb := ⟨_, rfl⟩
      have hz : B ≤ w1.heap.size := Nat.le_trans (Nat.le_of_lt HX0.out.lt) hb1.size
      have hown := lit_own w1 B ⟨1, 0, ⟨#[]⟩⟩ hz
      obtain ⟨v', W1, hrun, hown2, hgr⟩ := append_vals hown HN.out (HV.out.next (next_trans' hb1 (alloc_below' _ _))) HCp.out (by decide) hm (by simp; omega)
      rw [valsC_app] at hown2
      obtain ⟨ao2, cap2, rfl, HI0, _⟩ := own_vals (L := ⟨1, 0, ⟨#[]⟩⟩ :: L) (by rw [List.length_cons, HN.out]; omega) hown2
      have hlt1 := HX0.out.lt
      have HX1 : Hid (Box0 B W1) := by
        refine (HX0.out.next (next_trans' hb1 (alloc_below' _ _))).grown hgr ?_
        have := hb1.size
        simp [Value.ownBlock]
        omega
      have HW1 : Hid (Below B w W1) := by
        refine (below_next HW0.out (next_trans' hb1 (alloc_below' _ _)) (Nat.le_of_lt HX0.out.lt)).grown hgr (by simp; omega) ?_
        intro q hq
        simp [Value.ownBlock] at hq
        omega
      obtain ⟨bb2, oo, rfl, a0, a1, a2⟩ := first_val HI0
      have HI : Hid (IsVals W1 (some ⟨bb2, oo, none⟩) (⟨1, 0, ⟨#[]⟩⟩ :: L)) := HI0
      obtain ⟨M, HMe⟩ : ∃ M : Nat, 1 + N = M := ⟨_, rfl⟩
      have hM1 : (1 : Int) ≤ (M : Int) := by omega
      have hM2 : M ≤ 2000 := by omega
      have HM : Hid (L.length + 1 = M) := by rw [Hid, HN.out]; omega
      have HIz : Hid (inB 0 = true) := by rw [Hid]; decide
      have HIr : Hid (∀ v ∈ L, inB v.i = true) := HL
      rw [HMe] at hrun
      clear hown hown2 HI0 HX0 HW0 hgr HV hb1 hz hlt1 Hbb
      go_wp2_with (at_builtin; refine wpList_append_run _ rfl _ _ 22 rfl _ _ _ _ rfl rfl hrun ?_)
      clear hrun
      go_loop [9, 10] (fun x y => ∃ (j : Nat) (m : Int), j + 1 ≤ M ∧ y = .int .i64 ((j : Int) + 1) ∧ x = .int .i64 m ∧ Hid (inB m = true) ∧ Hid (sumR (foldE (twoF 1) m ((numsV L).drop j)) = (⟨k, i, t⟩, e0))) (fun _ y => M - (intOf y).toNat)
      case atStart => exact ⟨0, 0, by omega, rfl, rfl, HIz, HF⟩
      case round =>
        obtain ⟨j, m, hj, rfl, rfl, HM2, HF2⟩ := hrel
        clear HF HIz
        by_cases hlt : j + 1 < M
        · have hki2 : (j : Int) + 1 < ((M : Nat) : Int) := by omega
          obtain ⟨u, HG⟩ : ∃ u, Hid (L[j]? = some u) := ⟨_, List.getElem?_eq_getElem (by have := HM.out; omega)⟩
          obtain ⟨b', o', hbo, c0, c1, c2⟩ := HI.out (j + 1) u HG.out
          obtain ⟨rfl, rfl⟩ : b' = bb2 ∧ o' = oo := by injection hbo with h; injection h with h1 h2; exact ⟨h1.symm, h2.symm⟩
          have Hu : Hid (inB u.i = true) := vals_in HIr.out HG.out
          have HD := HF2.out
          rw [drop_at (numsV_get HG.out)] at HD
          obtain ⟨V, E, HE0⟩ : ∃ V E, Hid (twoF 1 m u.i = (V, E)) := ⟨_, _, rfl⟩
          have HVi : Hid (inB V = true) := by have := twoF_in 1 m u.i HM2.out Hu.out; rw [HE0.out] at this; exact this
          clear hbo c0 c2
          by_cases h0 : E = 0
          · subst h0
            have HD2 : Hid (sumR (foldE (twoF 1) V ((numsV L).drop (j + 1))) = (⟨k, i, t⟩, e0)) := by rw [foldE_go HE0.out] at HD; exact HD
            clear HD
            go_wp2_with (go_at_call 41; refine (two_any ⟨#[43]⟩ m u.i V 0 _ (by decide) HM2.out Hu.out HE0.out).mono ?_; rintro e w1 ⟨rfl, rfl⟩)
            go_round
            case rel => exact ⟨j + 1, V, by omega, by go_num, rfl, HVi, HD2⟩
            case measure => simp [intOf]; omega
          · have d0 : (E != 0) = true := by simpa using h0
            have HE : Hid (((⟨0, 0, ⟨#[]⟩⟩ : Val), E) = (⟨k, i, t⟩, e0)) := by rw [foldE_no HE0.out h0, sumR_no h0] at HD; exact HD
            obtain ⟨⟨p0, p1, p2⟩, pf⟩ := HX1.out
            clear HD h0
            go_wp2_with (go_at_call 41; refine (two_any ⟨#[43]⟩ m u.i V E _ (by decide) HM2.out Hu.out HE0.out).mono ?_; rintro e w1 ⟨rfl, rfl⟩)
            refine bodyPost_ret (v := .tuple #[.agg #[.int .i64 (0), .int .i64 (0), .string (⟨#[]⟩)], .int .i64 E]) (by simp [results, Tryd.results30, go_sem, *]) rfl ⟨ret_ve HE.out, ?_⟩
            exact set3 HW1.out _ _ _
        · have hki2 : ¬ (j : Int) + 1 < ((M : Nat) : Int) := by omega
          have HE : Hid (((⟨1, m, ⟨#[]⟩⟩ : Val), (0 : Int)) = (⟨k, i, t⟩, e0)) := by
            have h := HF2.out
            rw [List.drop_eq_nil_of_le (by rw [numsV_len]; have := HM.out; omega), foldE_nil, sumR_yes] at h
            exact h
          have z1 : Hid (B ≤ W1.heap.size) := Nat.le_of_lt HX1.out.lt
          go_wp2_with fail
          refine (rint_any m _).mono ?_
          rintro e w3 ⟨rfl, hb3⟩
          obtain ⟨⟨p0, p1, p2⟩, pf⟩ := HX1.out.next hb3
          have b3 : Hid (Below B w w3) := below_next HW1.out hb3 z1.out
          clear hb3 z1
          go_wp2
          refine bodyPost_ret (v := .tuple #[.agg #[.int .i64 (1), .int .i64 (m), .string (⟨#[]⟩)], .int .i64 0]) (by simp [results, Tryd.results30, go_sem, *]) rfl ⟨ret_ve HE.out, ?_⟩
          exact set3 b3.out _ _ _

set_option maxHeartbeats 4000000 in
set_option maxRecDepth 4000 in
theorem rnums_g (k i e0 : Int) (t : ByteArray) (ao : Option Addr) (cap N B : Nat) (L : List Val) (w : World) (hB : w.heap.size = B) (hN : L.length = N) (hv : IsVals w ao L) (hm : N ≤ 1000) (hcp : ao = none → N = 0 ∧ cap = 0) (hl : ∀ v ∈ L, inB v.i = true) (hA : allInt L = true) (hr : sumR (foldE (twoF 0) 1 (numsV L)) = (⟨k, i, t⟩, e0)) :
    Calls Tryd.prog 30 #[.string ⟨#[42]⟩, .slice ao N cap] w fun e w' => e = .returned (.tuple #[.agg #[.int .i64 (k), .int .i64 (i), .string (t)], .int .i64 e0]) ∧ Below B w w' := by
  have HB : Hid (w.heap.size = B) := hB
  have HV : Hid (IsVals (w.alloc (.cells #[.int .i64 0, .int .i64 0, .string ⟨#[]⟩] 26)) ao L) := hv.next (alloc_below' _ _)
  have HN : Hid (L.length = N) := hN
  have HX0 : Hid (Box0 B (w.alloc (.cells #[.int .i64 0, .int .i64 0, .string ⟨#[]⟩] 26))) := Box0.made hB
  have HW0 : Hid (Below B w (w.alloc (.cells #[.int .i64 0, .int .i64 0, .string ⟨#[]⟩] 26))) := by rw [Hid, ← hB]; exact alloc_below' _ _
  clear hv hN hB
  have HF : Hid (sumR (foldE (twoF 0) 1 (numsV L)) = (⟨k, i, t⟩, e0)) := hr
  have HL : Hid (∀ v ∈ L, inB v.i = true) := hl
  have HCp : Hid (ao = none → N = 0 ∧ cap = 0) := hcp
  clear hr hl hcp
  go_enter Tryd.func30, Tryd.ntmps30
  go_wp2
  rw [HB.out]
  obtain ⟨W, HWe⟩ : ∃ W, W = (w.alloc (.cells #[.int .i64 0, .int .i64 0, .string ⟨#[]⟩] 26)) := ⟨_, rfl⟩
  rw [← HWe] at HV HX0 HW0 ⊢
  clear HWe
  go_loop [6] (fun i => ∃ k : Nat, k ≤ N ∧ i = .int .i64 k ∧ Hid (allInt (L.take k) = true)) (fun i => N - (intOf i).toNat)
  case atStart => exact ⟨0, Nat.zero_le _, rfl, rfl⟩
  case round =>
    obtain ⟨n, hn, rfl, HA⟩ := hrel
    by_cases hlt : n < N
    · have hki : (n : Int) < (N : Int) := by omega
      obtain ⟨v, HG⟩ : ∃ v, Hid (L[n]? = some v) := ⟨_, List.getElem?_eq_getElem (by rw [HN.out]; exact hlt)⟩
      obtain ⟨b, o, rfl, c0, c1, c2⟩ := HV.out n v HG.out
      by_cases h1 : v.k = 1
      · have HA2 : Hid (allInt (L.take (n + 1)) = true) := by rw [Hid, allInt_take HG.out, HA.out, decide_eq_true h1]; rfl
        have d1 : (v.k != 1) = false := by simpa using h1
        clear h1
        go_wp2
        go_round
        case rel => exact ⟨n + 1, by omega, by go_num, HA2⟩
        case measure => simp [intOf]; omega
      · have HA2 : allInt L = false := allInt_no (n := n + 1) (by rw [allInt_take HG.out, decide_eq_false h1]; simp)
        exact absurd (hA.symm.trans HA2) (by decide)
    · have hki : ¬ (n : Int) < (N : Int) := by omega
      clear hlt hn HA
      go_wp2_with fail
      refine (rint_any 1 _).mono ?_
      rintro e w1 ⟨rfl, hb1⟩
      obtain ⟨bb, Hbb⟩ : ∃ bb, w1.heap.size = bb := ⟨_, rfl⟩
      have hz : B ≤ w1.heap.size := Nat.le_trans (Nat.le_of_lt HX0.out.lt) hb1.size
      have hown := lit_own w1 B ⟨1, 1, ⟨#[]⟩⟩ hz
      obtain ⟨v', W1, hrun, hown2, hgr⟩ := append_vals hown HN.out (HV.out.next (next_trans' hb1 (alloc_below' _ _))) HCp.out (by decide) hm (by simp; omega)
      rw [valsC_app] at hown2
      obtain ⟨ao2, cap2, rfl, HI0, _⟩ := own_vals (L := ⟨1, 1, ⟨#[]⟩⟩ :: L) (by rw [List.length_cons, HN.out]; omega) hown2
      have hlt1 := HX0.out.lt
      have HX1 : Hid (Box0 B W1) := by
        refine (HX0.out.next (next_trans' hb1 (alloc_below' _ _))).grown hgr ?_
        have := hb1.size
        simp [Value.ownBlock]
        omega
      have HW1 : Hid (Below B w W1) := by
        refine (below_next HW0.out (next_trans' hb1 (alloc_below' _ _)) (Nat.le_of_lt HX0.out.lt)).grown hgr (by simp; omega) ?_
        intro q hq
        simp [Value.ownBlock] at hq
        omega
      obtain ⟨bb2, oo, rfl, a0, a1, a2⟩ := first_val HI0
      have HI : Hid (IsVals W1 (some ⟨bb2, oo, none⟩) (⟨1, 1, ⟨#[]⟩⟩ :: L)) := HI0
      obtain ⟨M, HMe⟩ : ∃ M : Nat, 1 + N = M := ⟨_, rfl⟩
      have hM1 : (1 : Int) ≤ (M : Int) := by omega
      have hM2 : M ≤ 2000 := by omega
      have HM : Hid (L.length + 1 = M) := by rw [Hid, HN.out]; omega
      have HIz : Hid (inB 1 = true) := by rw [Hid]; decide
      have HIr : Hid (∀ v ∈ L, inB v.i = true) := HL
      rw [HMe] at hrun
      clear hown hown2 HI0 HX0 HW0 hgr HV hb1 hz hlt1 Hbb
      go_wp2_with (at_builtin; refine wpList_append_run _ rfl _ _ 22 rfl _ _ _ _ rfl rfl hrun ?_)
      clear hrun
      go_loop [9, 10] (fun x y => ∃ (j : Nat) (m : Int), j + 1 ≤ M ∧ y = .int .i64 ((j : Int) + 1) ∧ x = .int .i64 m ∧ Hid (inB m = true) ∧ Hid (sumR (foldE (twoF 0) m ((numsV L).drop j)) = (⟨k, i, t⟩, e0))) (fun _ y => M - (intOf y).toNat)
      case atStart => exact ⟨0, 1, by omega, rfl, rfl, HIz, HF⟩
      case round =>
        obtain ⟨j, m, hj, rfl, rfl, HM2, HF2⟩ := hrel
        clear HF HIz
        by_cases hlt : j + 1 < M
        · have hki2 : (j : Int) + 1 < ((M : Nat) : Int) := by omega
          obtain ⟨u, HG⟩ : ∃ u, Hid (L[j]? = some u) := ⟨_, List.getElem?_eq_getElem (by have := HM.out; omega)⟩
          obtain ⟨b', o', hbo, c0, c1, c2⟩ := HI.out (j + 1) u HG.out
          obtain ⟨rfl, rfl⟩ : b' = bb2 ∧ o' = oo := by injection hbo with h; injection h with h1 h2; exact ⟨h1.symm, h2.symm⟩
          have Hu : Hid (inB u.i = true) := vals_in HIr.out HG.out
          have HD := HF2.out
          rw [drop_at (numsV_get HG.out)] at HD
          obtain ⟨V, E, HE0⟩ : ∃ V E, Hid (twoF 0 m u.i = (V, E)) := ⟨_, _, rfl⟩
          have HVi : Hid (inB V = true) := by have := twoF_in 0 m u.i HM2.out Hu.out; rw [HE0.out] at this; exact this
          clear hbo c0 c2
          by_cases h0 : E = 0
          · subst h0
            have HD2 : Hid (sumR (foldE (twoF 0) V ((numsV L).drop (j + 1))) = (⟨k, i, t⟩, e0)) := by rw [foldE_go HE0.out] at HD; exact HD
            clear HD
            go_wp2_with (go_at_call 41; refine (two_any ⟨#[42]⟩ m u.i V 0 _ (by decide) HM2.out Hu.out HE0.out).mono ?_; rintro e w1 ⟨rfl, rfl⟩)
            go_round
            case rel => exact ⟨j + 1, V, by omega, by go_num, rfl, HVi, HD2⟩
            case measure => simp [intOf]; omega
          · have d0 : (E != 0) = true := by simpa using h0
            have HE : Hid (((⟨0, 0, ⟨#[]⟩⟩ : Val), E) = (⟨k, i, t⟩, e0)) := by rw [foldE_no HE0.out h0, sumR_no h0] at HD; exact HD
            obtain ⟨⟨p0, p1, p2⟩, pf⟩ := HX1.out
            clear HD h0
            go_wp2_with (go_at_call 41; refine (two_any ⟨#[42]⟩ m u.i V E _ (by decide) HM2.out Hu.out HE0.out).mono ?_; rintro e w1 ⟨rfl, rfl⟩)
            refine bodyPost_ret (v := .tuple #[.agg #[.int .i64 (0), .int .i64 (0), .string (⟨#[]⟩)], .int .i64 E]) (by simp [results, Tryd.results30, go_sem, *]) rfl ⟨ret_ve HE.out, ?_⟩
            exact set3 HW1.out _ _ _
        · have hki2 : ¬ (j : Int) + 1 < ((M : Nat) : Int) := by omega
          have HE : Hid (((⟨1, m, ⟨#[]⟩⟩ : Val), (0 : Int)) = (⟨k, i, t⟩, e0)) := by
            have h := HF2.out
            rw [List.drop_eq_nil_of_le (by rw [numsV_len]; have := HM.out; omega), foldE_nil, sumR_yes] at h
            exact h
          have z1 : Hid (B ≤ W1.heap.size) := Nat.le_of_lt HX1.out.lt
          go_wp2_with fail
          refine (rint_any m _).mono ?_
          rintro e w3 ⟨rfl, hb3⟩
          obtain ⟨⟨p0, p1, p2⟩, pf⟩ := HX1.out.next hb3
          have b3 : Hid (Below B w w3) := below_next HW1.out hb3 z1.out
          clear hb3 z1
          go_wp2
          refine bodyPost_ret (v := .tuple #[.agg #[.int .i64 (1), .int .i64 (m), .string (⟨#[]⟩)], .int .i64 0]) (by simp [results, Tryd.results30, go_sem, *]) rfl ⟨ret_ve HE.out, ?_⟩
          exact set3 b3.out _ _ _

theorem numL_abs1 {a : Int} (h : a < 0) : numL 9 [a] = [0, a] := by
  unfold numL
  rw [if_neg (by decide), if_neg (by decide), if_neg (by omega), if_pos ⟨rfl, h⟩]
theorem numL_abs2 {a : Int} (h : ¬ a < 0) : numL 9 [a] = [a] := by
  unfold numL
  rw [if_neg (by decide), if_neg (by decide), if_neg (by omega), if_neg (fun h2 => h h2.2)]
/-- Any name of numbers, any values. -/
theorem rnums_any (s : ByteArray) (k i e0 : Int) (t : ByteArray) (ao : Option Addr) (cap N B : Nat) (L : List Val) (w : World) (hB : w.heap.size = B) (hN : L.length = N) (hv : IsVals w ao L) (hm : N ≤ 1000) (hcp : ao = none → N = 0 ∧ cap = 0) (hl : ∀ v ∈ L, inB v.i = true) (hs : sumC (code s) = true ∨ cmpC (code s) = true) (hf : fitC (code s) N = true) (hr : numbersR (code s) L = (⟨k, i, t⟩, e0)) :
    Calls Tryd.prog 30 #[.string s, .slice ao N cap] w fun e w' => e = .returned (.tuple #[.agg #[.int .i64 (k), .int .i64 (i), .string (t)], .int .i64 e0]) ∧ Below B w w' := by
  cases hA : allInt L
  · refine rnums_no s k i e0 t ao cap N B L w hB hN hv hm hA ?_
    unfold numbersR at hr
    rw [if_neg (by rw [hA]; decide)] at hr
    exact hr
  have two : loC (code s) = 2 → 2 ≤ N := fun h1 => by
    unfold fitC at hf; rw [decide_eq_true_eq] at hf; omega
  have pos : (1 : Int) ≤ loC (code s) → 1 ≤ N := fun h => by
    unfold fitC at hf; rw [decide_eq_true_eq] at hf; omega
  have one : loC (code s) = 1 → hiC (code s) = 1 → N = 1 := fun h1 h2 => by
    unfold fitC at hf; rw [decide_eq_true_eq] at hf; omega
  rcases hs with hs | hs
  · have hr2 : sumR (numR (code s) (numsV L)) = (⟨k, i, t⟩, e0) := by
      rw [← numbers_sum hA]
      · exact hr
      · unfold cmpC; unfold sumC at hs
        rw [decide_eq_true_eq] at hs
        exact decide_eq_false (by omega)
    have four : (code s = 10 ∨ code s = 13 ∨ code s = 14 ∨ code s = 15) → (1 : Int) ≤ loC (code s) → (∀ z R, numR (code s) (numsV (z :: R)) = foldE (twoF (code s)) z.i (numsV R)) → Calls Tryd.prog 30 #[.string s, .slice ao N cap] w fun e w' => e = .returned (.tuple #[.agg #[.int .i64 (k), .int .i64 (i), .string (t)], .int .i64 e0]) ∧ Below B w w' := by
      intro hd hlo hnr
      have h1 := pos hlo
      match L, hN, hv, hl, hA, hr2 with
      | [], hN, _, _, _, _ => simp at hN; omega
      | z :: R, hN, hv, hl, hA, hr2 => exact rnums_a s k i e0 t ao cap N B (z :: R) w hB hN hv hm z R rfl hl hA hs hd (by rw [← hnr]; exact hr2)
    clear hr hf
    rcases code_cases s with rfl | rfl | rfl | rfl | rfl | rfl | rfl | rfl | rfl | rfl | rfl | rfl | rfl | rfl | rfl | rfl | rfl | rfl | rfl | rfl | rfl | hn
    all_goals first | exact absurd hs (by decide) | skip
    · exact rnums_g k i e0 t ao cap N B L w hB hN hv hm hcp hl hA hr2
    · exact rnums_f k i e0 t ao cap N B L w hB hN hv hm hcp hl hA hr2
    · have h1 := pos (by decide)
      match L, hN, hv, hl, hA, hr2 with
      | [], hN, _, _, _, _ => simp at hN; omega
      | [z], hN, hv, hl, hA, hr2 => exact rnums_e k i e0 t ao cap N B [z] w hB hN hv hm z rfl hl hA hr2
      | z :: y :: R, hN, hv, hl, hA, hr2 =>
        have h3 : sumR (numR 2 (z.i :: y.i :: numsV R)) = (⟨k, i, t⟩, e0) := hr2
        rw [num_sub] at h3
        exact rnums_b k i e0 t ao cap N B (z :: y :: R) w hB hN hv hm z (y :: R) rfl hl hA (by simp at hN; omega) h3
    · have h1 := one (by decide) (by decide)
      match L, hN, hv, hl, hA, hr2 with
      | [], hN, _, _, _, _ => simp at hN; omega
      | [z], hN, hv, hl, hA, hr2 =>
        have h3 : sumR (foldL 9 (numL 9 [z.i])) = (⟨k, i, t⟩, e0) := hr2
        by_cases h0 : z.i < 0
        · rw [numL_abs1 h0] at h3
          exact rnums_d k i e0 t ao cap N B [z] w hB hN hv hm z rfl hl hA h0 h3
        · rw [numL_abs2 h0] at h3
          exact rnums_c k i e0 t ao cap N B [z] w hB hN hv hm z [] rfl hl hA h0 h3
      | z :: y :: R, hN, _, _, _, _ => simp at hN; omega
    · exact four (by decide) (by decide) (fun _ _ => rfl)
    · exact four (by decide) (by decide) (fun _ _ => rfl)
    · exact four (by decide) (by decide) (fun _ _ => rfl)
    · exact four (by decide) (by decide) (fun _ _ => rfl)
    · rw [code_none hn] at hs; exact absurd hs (by decide)
  · clear hf
    rcases code_cases s with rfl | rfl | rfl | rfl | rfl | rfl | rfl | rfl | rfl | rfl | rfl | rfl | rfl | rfl | rfl | rfl | rfl | rfl | rfl | rfl | rfl | hn
    all_goals first | exact absurd hs (by decide) | skip
    · exact rnums_3 k i e0 t ao cap N B L w hB hN hv hm (two rfl) hA hr
    · exact rnums_4 k i e0 t ao cap N B L w hB hN hv hm (two rfl) hA hr
    · exact rnums_5 k i e0 t ao cap N B L w hB hN hv hm (two rfl) hA hr
    · exact rnums_6 k i e0 t ao cap N B L w hB hN hv hm (two rfl) hA hr
    · exact rnums_7 k i e0 t ao cap N B L w hB hN hv hm (two rfl) hA hr
    · exact rnums_8 k i e0 t ao cap N B L w hB hN hv hm (two rfl) hA hr
    · rw [code_none hn] at hs; exact absurd hs (by decide)
end Go.Proofs.YtfglmfldpmpofaaDoor
