/- Contracts of package built's joinedSymbol, joinedString, lengthOf, typeOf. -/
import Derived.Test.YtfglmfldpmpofaaDoorBtText
namespace Go.Proofs.YtfglmfldpmpofaaDoor
open Go.RowKit

theorem catS_size (L : List Val) : (catS L).size = (catL L).length := rfl
set_option maxHeartbeats 1000000 in
set_option maxRecDepth 4000 in
theorem jsym_any (k i e0 : Int) (t : ByteArray) (ao : Option Addr) (cap N : Nat) (L : List Val) (w : World) (hN : L.length = N) (hn : N ≤ 100) (hv : IsVals w ao L) (hR : ∀ v ∈ L, rightV v) (ht : TabW w) (hr : symcatR L = (⟨k, i, t⟩, e0)) :
    Calls Tryd.prog 35 #[.slice ao N cap] w fun e w' => e = .returned (.tuple #[.agg #[.int .i64 (k), .int .i64 (i), .string (t)], .int .i64 e0]) ∧ Below w.heap.size w w' := by
  obtain ⟨B, HB⟩ : ∃ B, Hid (w.heap.size = B) := ⟨_, rfl⟩
  have HV : Hid (IsVals (w.alloc (.cells #[.int .i64 0, .int .i64 0, .string ⟨#[]⟩] 26)) ao L) := hv.next (alloc_below' _ _)
  have HR : Hid (∀ v ∈ L, rightV v) := hR
  have HN : Hid (L.length = N) := hN
  have HT : Hid (TabW (w.alloc (.cells #[.int .i64 0, .int .i64 0, .string ⟨#[]⟩] 26))) := tab_alloc ht
  unfold symcatR at hr
  clear hv hR hN ht
  by_cases hc : 40 < (catL L).length
  · have HJ : Hid (joinR L 40 = (⟨#[]⟩, 4)) := by unfold joinR; rw [Hid, if_pos hc]
    have HE : Hid (((⟨0, 0, ⟨#[]⟩⟩ : Val), (4 : Int)) = (⟨k, i, t⟩, e0)) := by rw [if_pos hc] at hr; exact hr
    clear hc hr
    go_enter Tryd.func35, Tryd.ntmps35
    go_wp2_with fail
    refine (join_any ao cap N 40 40 L _ 4 _ rfl (by decide) HN.out hn HV.out HR.out HT.out HJ.out).mono ?_
    rintro e w1 ⟨rfl, hb1⟩
    obtain ⟨⟨p0, p1, p2⟩, pf⟩ := box3 HB.out hb1
    have b1 : Hid (Below B w w1) := by rw [Hid, ← HB.out]; exact next_trans' (alloc_below' _ _) hb1
    clear hb1
    rw [HB.out]
    go_wp2
    refine bodyPost_ret (v := .tuple #[.agg #[.int .i64 (0), .int .i64 (0), .string (⟨#[]⟩)], .int .i64 4]) (by simp [results, Tryd.results35, go_sem, *]) rfl ⟨ret_ve HE.out, ?_⟩
    rw [HB.out]; exact set3 b1.out _ _ _
  · have HJ : Hid (joinR L 40 = (catS L, 0)) := by unfold joinR; rw [Hid, if_neg hc]
    rw [if_neg hc] at hr
    obtain ⟨X, HX⟩ : ∃ X, Hid (catS L = X) := ⟨_, rfl⟩
    have HXs : Hid (X.size ≤ 100000) := by rw [Hid, ← HX.out, catS_size]; omega
    rw [HX.out] at hr HJ
    obtain ⟨q, HQ⟩ : ∃ q, Hid (symB X = q) := ⟨_, rfl⟩
    have HQr : Hid (∀ w : World, Calls Tryd.prog 46 #[.agg #[.int .i64 (2), .int .i64 (0), .string (X)]] w fun e w' => e = .returned (.bool q) ∧ Below w.heap.size w w') := by
      intro w
      have h := right_any 2 0 X w HXs.out
      have e : rightB 2 0 X = q := by rw [right_sym, HQ.out]; rfl
      rw [e] at h
      exact h
    rw [HQ.out] at hr
    clear hc
    cases q
    · have HE : Hid (((⟨0, 0, ⟨#[]⟩⟩ : Val), (2 : Int)) = (⟨k, i, t⟩, e0)) := by rw [if_neg (by decide)] at hr; exact hr
      clear hr
      go_enter Tryd.func35, Tryd.ntmps35
      go_wp2_with fail
      refine (join_any ao cap N 40 40 L X 0 _ rfl (by decide) HN.out hn HV.out HR.out HT.out HJ.out).mono ?_
      rintro e w1 ⟨rfl, hb1⟩
      have HC1 := box3 HB.out hb1
      have b1 : Hid (Below B w w1) := by rw [Hid, ← HB.out]; exact next_trans' (alloc_below' _ _) hb1
      have z1 : Hid (B ≤ w1.heap.size) := by have := b1.out.size; have := HB.out; rw [Hid]; omega
      clear hb1
      go_wp2_with fail
      refine (of_sym X _).mono ?_
      rintro e w2 ⟨rfl, hb2⟩
      have HC2 := box3_next HC1 hb2
      have b2 : Hid (Below B w w2) := below_next b1.out hb2 z1.out
      have z2 : Hid (B ≤ w2.heap.size) := le_next z1.out hb2
      clear hb2 HC1 b1 z1
      go_wp2_with fail
      refine (HQr.out _).mono ?_
      rintro e w3 ⟨rfl, hb3⟩
      obtain ⟨⟨p0, p1, p2⟩, pf⟩ := box3_next HC2 (next_trans' (alloc_below' _ _) hb3)
      have b3 : Hid (Below B w w3) := below_next (below_alloc b2.out z2.out) hb3 (le_alloc z2.out)
      clear hb3 b2 HC2 z2
      rw [HB.out]
      go_wp2
      refine bodyPost_ret (v := .tuple #[.agg #[.int .i64 (0), .int .i64 (0), .string (⟨#[]⟩)], .int .i64 2]) (by simp [results, Tryd.results35, go_sem, *]) rfl ⟨ret_ve HE.out, ?_⟩
      rw [HB.out]; exact set3 b3.out _ _ _
    · have HE : Hid (((⟨2, 0, X⟩ : Val), (0 : Int)) = (⟨k, i, t⟩, e0)) := by rw [if_pos rfl] at hr; exact hr
      clear hr
      go_enter Tryd.func35, Tryd.ntmps35
      go_wp2_with fail
      refine (join_any ao cap N 40 40 L X 0 _ rfl (by decide) HN.out hn HV.out HR.out HT.out HJ.out).mono ?_
      rintro e w1 ⟨rfl, hb1⟩
      have HC1 := box3 HB.out hb1
      have b1 : Hid (Below B w w1) := by rw [Hid, ← HB.out]; exact next_trans' (alloc_below' _ _) hb1
      have z1 : Hid (B ≤ w1.heap.size) := by have := b1.out.size; have := HB.out; rw [Hid]; omega
      clear hb1
      go_wp2_with fail
      refine (of_sym X _).mono ?_
      rintro e w2 ⟨rfl, hb2⟩
      have HC2 := box3_next HC1 hb2
      have b2 : Hid (Below B w w2) := below_next b1.out hb2 z1.out
      have z2 : Hid (B ≤ w2.heap.size) := le_next z1.out hb2
      obtain ⟨n2, Hn2⟩ : ∃ n2, Hid (w2.heap.size = n2) := ⟨_, rfl⟩
      clear hb2 HC1 b1 z1
      go_wp2_with fail
      rw [Hn2.out]
      refine (HQr.out _).mono ?_
      rintro e w3 ⟨rfl, hb3⟩
      have k0 : w3.cell? ⟨n2, 0, none⟩ = some (.int .i64 2) := keep_cell hb3 (box_cell Hn2.out.symm rfl)
      have k1 : w3.cell? ⟨n2, 1, none⟩ = some (.int .i64 0) := keep_cell hb3 (box_cell Hn2.out.symm rfl)
      have k2 : w3.cell? ⟨n2, 2, none⟩ = some (.string X) := keep_cell hb3 (box_cell Hn2.out.symm rfl)
      obtain ⟨⟨p0, p1, p2⟩, pf⟩ := box3_next HC2 (next_trans' (alloc_below' _ _) hb3)
      have b3 : Hid (Below B w w3) := below_next (below_alloc b2.out z2.out) hb3 (le_alloc z2.out)
      clear hb3 b2 HC2 z2
      rw [HB.out]
      go_wp2
      refine bodyPost_ret (v := .tuple #[.agg #[.int .i64 (2), .int .i64 (0), .string (X)], .int .i64 0]) (by simp [results, Tryd.results35, go_sem, *]) rfl ⟨ret_ve HE.out, ?_⟩
      rw [HB.out]; exact set3 b3.out _ _ _

set_option maxHeartbeats 1000000 in
set_option maxRecDepth 4000 in
theorem jstr_any (k i e0 : Int) (t : ByteArray) (ao : Option Addr) (cap N : Nat) (L : List Val) (w : World) (hN : L.length = N) (hn : N ≤ 100) (hv : IsVals w ao L) (hR : ∀ v ∈ L, rightV v) (ht : TabW w) (hr : strcatR L = (⟨k, i, t⟩, e0)) :
    Calls Tryd.prog 36 #[.slice ao N cap] w fun e w' => e = .returned (.tuple #[.agg #[.int .i64 (k), .int .i64 (i), .string (t)], .int .i64 e0]) ∧ Below w.heap.size w w' := by
  obtain ⟨B, HB⟩ : ∃ B, Hid (w.heap.size = B) := ⟨_, rfl⟩
  have HV : Hid (IsVals (w.alloc (.cells #[.int .i64 0, .int .i64 0, .string ⟨#[]⟩] 26)) ao L) := hv.next (alloc_below' _ _)
  have HR : Hid (∀ v ∈ L, rightV v) := hR
  have HN : Hid (L.length = N) := hN
  have HT : Hid (TabW (w.alloc (.cells #[.int .i64 0, .int .i64 0, .string ⟨#[]⟩] 26))) := tab_alloc ht
  unfold strcatR at hr
  clear hv hR hN ht
  by_cases hc : 1000 < (catL L).length
  · have HJ : Hid (joinR L 1000 = (⟨#[]⟩, 4)) := by unfold joinR; rw [Hid, if_pos hc]
    have HE : Hid (((⟨0, 0, ⟨#[]⟩⟩ : Val), (4 : Int)) = (⟨k, i, t⟩, e0)) := by rw [if_pos hc] at hr; exact hr
    clear hc hr
    go_enter Tryd.func36, Tryd.ntmps36
    go_wp2_with fail
    refine (join_any ao cap N 1000 1000 L _ 4 _ rfl (by decide) HN.out hn HV.out HR.out HT.out HJ.out).mono ?_
    rintro e w1 ⟨rfl, hb1⟩
    obtain ⟨⟨p0, p1, p2⟩, pf⟩ := box3 HB.out hb1
    have b1 : Hid (Below B w w1) := by rw [Hid, ← HB.out]; exact next_trans' (alloc_below' _ _) hb1
    clear hb1
    rw [HB.out]
    go_wp2
    refine bodyPost_ret (v := .tuple #[.agg #[.int .i64 (0), .int .i64 (0), .string (⟨#[]⟩)], .int .i64 4]) (by simp [results, Tryd.results36, go_sem, *]) rfl ⟨ret_ve HE.out, ?_⟩
    rw [HB.out]; exact set3 b1.out _ _ _
  · have HJ : Hid (joinR L 1000 = (catS L, 0)) := by unfold joinR; rw [Hid, if_neg hc]
    rw [if_neg hc] at hr
    obtain ⟨X, HX⟩ : ∃ X, Hid (catS L = X) := ⟨_, rfl⟩
    rw [HX.out] at hr HJ
    have HE : Hid (((⟨3, 0, X⟩ : Val), (0 : Int)) = (⟨k, i, t⟩, e0)) := hr
    clear hc hr
    go_enter Tryd.func36, Tryd.ntmps36
    go_wp2_with fail
    refine (join_any ao cap N 1000 1000 L X 0 _ rfl (by decide) HN.out hn HV.out HR.out HT.out HJ.out).mono ?_
    rintro e w1 ⟨rfl, hb1⟩
    have HC1 := box3 HB.out hb1
    have b1 : Hid (Below B w w1) := by rw [Hid, ← HB.out]; exact next_trans' (alloc_below' _ _) hb1
    have z1 : Hid (B ≤ w1.heap.size) := by have := b1.out.size; have := HB.out; rw [Hid]; omega
    clear hb1
    go_wp2_with fail
    refine (of_str X _).mono ?_
    rintro e w2 ⟨rfl, hb2⟩
    obtain ⟨⟨p0, p1, p2⟩, pf⟩ := box3_next HC1 hb2
    have b2 : Hid (Below B w w2) := below_next b1.out hb2 z1.out
    clear hb2 HC1 b1 z1
    rw [HB.out]
    go_wp2
    refine bodyPost_ret (v := .tuple #[.agg #[.int .i64 (3), .int .i64 (0), .string (X)], .int .i64 0]) (by simp [results, Tryd.results36, go_sem, *]) rfl ⟨ret_ve HE.out, ?_⟩
    rw [HB.out]; exact set3 b2.out _ _ _

theorem set3' {B R : Nat} {w w1 : World} (h : Below B w w1) (hR : B ≤ R) (x y z : Value) : Below B w (((w1.setCell ⟨R, 0, none⟩ x).setCell ⟨R, 1, none⟩ y).setCell ⟨R, 2, none⟩ z) :=
  ((h.setCell (p := ⟨R, 0, none⟩) hR _).setCell (p := ⟨R, 1, none⟩) hR _).setCell (p := ⟨R, 2, none⟩) hR _
set_option maxRecDepth 4000 in
theorem length_any (a b : Int) (s : ByteArray) (k i e0 : Int) (t : ByteArray) (w : World) (hr : lengthR ⟨a, b, s⟩ = (⟨k, i, t⟩, e0)) :
    Calls Tryd.prog 37 #[.agg #[.int .i64 (a), .int .i64 (b), .string (s)]] w fun e w' => e = .returned (.tuple #[.agg #[.int .i64 (k), .int .i64 (i), .string (t)], .int .i64 e0]) ∧ Below w.heap.size w w' := by
  unfold lengthR at hr
  by_cases h3 : a = 3
  · subst h3
    have HE : Hid (((⟨1, (s.size : Int), ⟨#[]⟩⟩ : Val), (0 : Int)) = (⟨k, i, t⟩, e0)) := by rw [if_pos rfl] at hr; exact hr
    clear hr
    obtain ⟨R, HR⟩ : ∃ R, Hid (w.heap.size + 1 = R) := ⟨_, rfl⟩
    go_enter Tryd.func37, Tryd.ntmps37
    go_wp2_with fail
    refine (of_int (s.size : Int) _).mono ?_
    rintro e w1 ⟨rfl, hb1⟩
    obtain ⟨⟨p0, p1, p2⟩, pf⟩ := box3 (by simpa using HR.out) hb1
    have b1 : Hid (Below w.heap.size w w1) := next_trans' (next_trans' (alloc_below' _ _) (alloc_below' _ _)) hb1
    clear hb1
    rw [HR.out]
    go_wp2
    refine bodyPost_ret (v := .tuple #[.agg #[.int .i64 (1), .int .i64 ((s.size : Int)), .string (⟨#[]⟩)], .int .i64 0]) (by simp [results, Tryd.results37, go_sem, *]) rfl ⟨ret_ve HE.out, ?_⟩
    exact set3' b1.out (by have := HR.out; omega) _ _ _
  · have HE : Hid (((⟨0, 0, ⟨#[]⟩⟩ : Val), (8 : Int)) = (⟨k, i, t⟩, e0)) := by rw [if_neg h3] at hr; exact hr
    have d3 : (a != 3) = true := by simpa using h3
    clear hr h3
    go_enter Tryd.func37, Tryd.ntmps37
    go_wp2
    refine bodyPost_ret (v := .tuple #[.agg #[.int .i64 (0), .int .i64 (0), .string (⟨#[]⟩)], .int .i64 8]) (by simp [results, Tryd.results37, go_sem]) rfl ⟨ret_ve HE.out, ?_⟩
    exact next_trans' (alloc_below' _ _) (alloc_below' _ _)
set_option maxRecDepth 4000 in
theorem type_any (a b : Int) (s X : ByteArray) (w : World) (ha : a = 1 ∨ a = 2 ∨ a = 3) (hX : typeS a = X) :
    Calls Tryd.prog 38 #[.agg #[.int .i64 (a), .int .i64 (b), .string (s)]] w fun e w' => e = .returned (.tuple #[.agg #[.int .i64 (2), .int .i64 (0), .string (X)], .int .i64 0]) ∧ Below w.heap.size w w' := by
  obtain ⟨R, HR⟩ : ∃ R, Hid (w.heap.size + 1 = R) := ⟨_, rfl⟩
  have Hs : Hid (∀ (Y : ByteArray) (w : World), typeS a = Y → Calls Tryd.prog 44 #[.string Y] w fun e w' => e = .returned (.agg #[.int .i64 (2), .int .i64 (0), .string (X)]) ∧ Below w.heap.size w w') := by
    intro Y w hY
    rw [← hX, hY]
    exact of_sym Y w
  clear hX
  rcases ha with rfl | rfl | rfl
  all_goals
    go_enter Tryd.func38, Tryd.ntmps38
    go_wp2_with fail
    refine (Hs.out _ _ rfl).mono ?_
    rintro e w1 ⟨rfl, hb1⟩
    obtain ⟨⟨p0, p1, p2⟩, pf⟩ := box3 (by simpa using HR.out) hb1
    have b1 : Hid (Below w.heap.size w w1) := next_trans' (next_trans' (alloc_below' _ _) (alloc_below' _ _)) hb1
    clear hb1 Hs
    rw [HR.out]
    go_wp2
    refine bodyPost_ret (v := .tuple #[.agg #[.int .i64 (2), .int .i64 (0), .string (X)], .int .i64 0]) (by simp [results, Tryd.results38, go_sem, *]) rfl ⟨rfl, ?_⟩
    exact set3' b1.out (by have := HR.out; omega) _ _ _
end Go.Proofs.YtfglmfldpmpofaaDoor
