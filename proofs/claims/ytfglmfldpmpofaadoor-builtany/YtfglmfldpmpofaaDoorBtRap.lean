/- The contract of the reference's Apply. -/
import Derived.Test.YtfglmfldpmpofaaDoorBtRnum3
import Derived.Test.YtfglmfldpmpofaaDoorValRight3
namespace Go.Proofs.YtfglmfldpmpofaaDoor
open Go.RowKit

set_option maxHeartbeats 4000000 in
set_option maxRecDepth 4000 in
theorem rap_none (s : ByteArray) (ao : Option Addr) (cap N B : Nat) (w : World) (hB : w.heap.size = B) (hc : code s = 21) :
    Calls Tryd.prog 12 #[.string s, .slice ao N cap] w fun e w' => e = .returned (.tuple #[.agg #[.int .i64 (0), .int .i64 (0), .string (⟨#[]⟩)], .int .i64 5]) ∧ Below B w w' := by
  have HB : Hid (w.heap.size = B) := hB
  have HX0 : Hid (Box0 B (w.alloc (.cells #[.int .i64 0, .int .i64 0, .string ⟨#[]⟩] 26))) := Box0.made hB
  have HW0 : Hid (Below B w (w.alloc (.cells #[.int .i64 0, .int .i64 0, .string ⟨#[]⟩] 26))) := by rw [Hid, ← hB]; exact alloc_below' _ _
  clear hB
  have HK : Hid (knownB s = false) := known_not hc
  clear hc
  go_enter Tryd.func12, Tryd.ntmps12
  go_wp2_with fail
  refine (rknown_any s false _ HK.out).mono ?_
  rintro e w1 ⟨rfl, hb1⟩
  have HX1 : Hid (Box0 B w1) := HX0.out.next hb1
  have HW1 : Hid (Below B w w1) := below_next HW0.out hb1 (Nat.le_of_lt HX0.out.lt)
  rw [HB.out]
  obtain ⟨⟨p0, p1, p2⟩, pf⟩ := HX1.out
  clear hb1
  go_wp2
  refine bodyPost_ret (v := .tuple #[.agg #[.int .i64 (0), .int .i64 (0), .string (⟨#[]⟩)], .int .i64 5]) (by simp [results, Tryd.results12, go_sem, *]) rfl ⟨rfl, ?_⟩
  exact set3 HW1.out _ _ _

set_option maxHeartbeats 4000000 in
set_option maxRecDepth 4000 in
theorem rap_arg (s : ByteArray) (ao : Option Addr) (cap N B : Nat) (w : World) (hB : w.heap.size = B) (hc : code s ≠ 21) (hf : fitC (code s) N = false) :
    Calls Tryd.prog 12 #[.string s, .slice ao N cap] w fun e w' => e = .returned (.tuple #[.agg #[.int .i64 (0), .int .i64 (0), .string (⟨#[]⟩)], .int .i64 1]) ∧ Below B w w' := by
  have HB : Hid (w.heap.size = B) := hB
  have HX0 : Hid (Box0 B (w.alloc (.cells #[.int .i64 0, .int .i64 0, .string ⟨#[]⟩] 26))) := Box0.made hB
  have HW0 : Hid (Below B w (w.alloc (.cells #[.int .i64 0, .int .i64 0, .string ⟨#[]⟩] 26))) := by rw [Hid, ← hB]; exact alloc_below' _ _
  clear hB
  have HK : Hid (knownB s = true) := known_is hc
  have HF : Hid (fitC (code s) N = false) := hf
  clear hc hf
  go_enter Tryd.func12, Tryd.ntmps12
  go_wp2_with fail
  refine (rknown_any s true _ HK.out).mono ?_
  rintro e w1 ⟨rfl, hb1⟩
  have HX1 : Hid (Box0 B w1) := HX0.out.next hb1
  have HW1 : Hid (Below B w w1) := below_next HW0.out hb1 (Nat.le_of_lt HX0.out.lt)
  rw [HB.out]
  obtain ⟨⟨p0, p1, p2⟩, pf⟩ := HX1.out
  clear hb1
  go_wp2_with (go_at_call 28; refine (fits6_any s N false _ HF.out).mono ?_; rintro e w2 ⟨rfl, rfl⟩)
  refine bodyPost_ret (v := .tuple #[.agg #[.int .i64 (0), .int .i64 (0), .string (⟨#[]⟩)], .int .i64 1]) (by simp [results, Tryd.results12, go_sem, *]) rfl ⟨rfl, ?_⟩
  exact set3 HW1.out _ _ _

set_option maxHeartbeats 4000000 in
set_option maxRecDepth 4000 in
theorem rap_11 (v u : Val) (q : Bool) (ao : Option Addr) (cap B : Nat) (w : World) (hB : w.heap.size = B) (hv : IsVals w ao [v, u]) (hq : sameV v u = q) :
    Calls Tryd.prog 12 #[.string ⟨#[101, 113]⟩, .slice ao 2 cap] w fun e w' => e = .returned (.tuple #[.agg #[.int .i64 (2), .int .i64 (0), .string (boolS q)], .int .i64 0]) ∧ Below B w w' := by
  have HB : Hid (w.heap.size = B) := hB
  have HX0 : Hid (Box0 B (w.alloc (.cells #[.int .i64 0, .int .i64 0, .string ⟨#[]⟩] 26))) := Box0.made hB
  have HW0 : Hid (Below B w (w.alloc (.cells #[.int .i64 0, .int .i64 0, .string ⟨#[]⟩] 26))) := by rw [Hid, ← hB]; exact alloc_below' _ _
  clear hB
  obtain ⟨vk, vi, vs⟩ := v
  obtain ⟨uk, ui, us⟩ := u
  have HV : Hid (IsVals (w.alloc (.cells #[.int .i64 0, .int .i64 0, .string ⟨#[]⟩] 26)) ao [⟨vk, vi, vs⟩, ⟨uk, ui, us⟩]) := hv.next (alloc_below' _ _)
  have HS : Hid (∀ w : World, Calls Tryd.prog 15 #[.agg #[.int .i64 (vk), .int .i64 (vi), .string (vs)], .agg #[.int .i64 (uk), .int .i64 (ui), .string (us)]] w fun e w' => e = .returned (.bool q) ∧ Below w.heap.size w w') := by
    intro w; rw [← hq]; exact rsame_any vk vi uk ui vs us w
  clear hv hq
  go_enter Tryd.func12, Tryd.ntmps12
  go_wp2_with fail
  refine (rknown_any ⟨#[101, 113]⟩ true _ (by decide)).mono ?_
  rintro e w1 ⟨rfl, hb1⟩
  have HX1 : Hid (Box0 B w1) := HX0.out.next hb1
  have HW1 : Hid (Below B w w1) := below_next HW0.out hb1 (Nat.le_of_lt HX0.out.lt)
  rw [HB.out]
  obtain ⟨b, o, rfl, a0, a1, a2, a3, a4, a5⟩ := two_vals (HV.out.next hb1)
  clear hb1 HV
  go_wp2_with (go_at_call 28; refine (fits6_any ⟨#[101, 113]⟩ 2 true _ (by decide)).mono ?_; rintro e w2 ⟨rfl, rfl⟩)
  go_region_with (first
    | (go_at_call 15; refine (HS.out _).mono ?_; rintro e w2 ⟨rfl, hb2⟩)
    | (go_at_call 21; refine (rbool_any _ _).mono ?_; rintro e w3 ⟨rfl, hb3⟩; obtain ⟨⟨p0, p1, p2⟩, pf⟩ := (HX1.out.next (below_undrew hb2)).next hb3))
  all_goals
    have b3 : Hid (Below B w w3) := below_next HW1.out (next_trans' (below_undrew hb2) hb3) (Nat.le_of_lt HX1.out.lt)
    clear hb2 hb3
    go_wp2
    refine bodyPost_ret (v := .tuple #[.agg #[.int .i64 (2), .int .i64 (0), .string (boolS q)], .int .i64 0]) (by simp [results, Tryd.results12, go_sem, *]) rfl ⟨rfl, ?_⟩
    exact set3 b3.out _ _ _

set_option maxHeartbeats 4000000 in
set_option maxRecDepth 4000 in
theorem rap_16 (v u : Val) (q : Bool) (ao : Option Addr) (cap B : Nat) (w : World) (hB : w.heap.size = B) (hv : IsVals w ao [v, u]) (hq : sameV v u = q) :
    Calls Tryd.prog 12 #[.string ⟨#[110, 101, 113]⟩, .slice ao 2 cap] w fun e w' => e = .returned (.tuple #[.agg #[.int .i64 (2), .int .i64 (0), .string (boolS (!q))], .int .i64 0]) ∧ Below B w w' := by
  have HB : Hid (w.heap.size = B) := hB
  have HX0 : Hid (Box0 B (w.alloc (.cells #[.int .i64 0, .int .i64 0, .string ⟨#[]⟩] 26))) := Box0.made hB
  have HW0 : Hid (Below B w (w.alloc (.cells #[.int .i64 0, .int .i64 0, .string ⟨#[]⟩] 26))) := by rw [Hid, ← hB]; exact alloc_below' _ _
  clear hB
  obtain ⟨vk, vi, vs⟩ := v
  obtain ⟨uk, ui, us⟩ := u
  have HV : Hid (IsVals (w.alloc (.cells #[.int .i64 0, .int .i64 0, .string ⟨#[]⟩] 26)) ao [⟨vk, vi, vs⟩, ⟨uk, ui, us⟩]) := hv.next (alloc_below' _ _)
  have HS : Hid (∀ w : World, Calls Tryd.prog 15 #[.agg #[.int .i64 (vk), .int .i64 (vi), .string (vs)], .agg #[.int .i64 (uk), .int .i64 (ui), .string (us)]] w fun e w' => e = .returned (.bool q) ∧ Below w.heap.size w w') := by
    intro w; rw [← hq]; exact rsame_any vk vi uk ui vs us w
  clear hv hq
  go_enter Tryd.func12, Tryd.ntmps12
  go_wp2_with fail
  refine (rknown_any ⟨#[110, 101, 113]⟩ true _ (by decide)).mono ?_
  rintro e w1 ⟨rfl, hb1⟩
  have HX1 : Hid (Box0 B w1) := HX0.out.next hb1
  have HW1 : Hid (Below B w w1) := below_next HW0.out hb1 (Nat.le_of_lt HX0.out.lt)
  rw [HB.out]
  obtain ⟨b, o, rfl, a0, a1, a2, a3, a4, a5⟩ := two_vals (HV.out.next hb1)
  clear hb1 HV
  go_wp2_with (go_at_call 28; refine (fits6_any ⟨#[110, 101, 113]⟩ 2 true _ (by decide)).mono ?_; rintro e w2 ⟨rfl, rfl⟩)
  go_region_with (first
    | (go_at_call 15; refine (HS.out _).mono ?_; rintro e w2 ⟨rfl, hb2⟩)
    | (go_at_call 21; refine (rbool_any _ _).mono ?_; rintro e w3 ⟨rfl, hb3⟩; obtain ⟨⟨p0, p1, p2⟩, pf⟩ := (HX1.out.next (below_undrew hb2)).next hb3))
  all_goals
    have b3 : Hid (Below B w w3) := below_next HW1.out (next_trans' (below_undrew hb2) hb3) (Nat.le_of_lt HX1.out.lt)
    clear hb2 hb3
    go_wp2
    refine bodyPost_ret (v := .tuple #[.agg #[.int .i64 (2), .int .i64 (0), .string (boolS (!q))], .int .i64 0]) (by simp [results, Tryd.results12, go_sem, *]) rfl ⟨rfl, ?_⟩
    exact set3 b3.out _ _ _

set_option maxHeartbeats 4000000 in
set_option maxRecDepth 4000 in
theorem rap_17 (v : Val) (q : Bool) (ao : Option Addr) (cap B : Nat) (w : World) (hB : w.heap.size = B) (hv : IsVals w ao [v]) (hq : trueB v.k v.i v.s = q) :
    Calls Tryd.prog 12 #[.string ⟨#[110, 111, 116]⟩, .slice ao 1 cap] w fun e w' => e = .returned (.tuple #[.agg #[.int .i64 (2), .int .i64 (0), .string (boolS (!q))], .int .i64 0]) ∧ Below B w w' := by
  have HB : Hid (w.heap.size = B) := hB
  have HX0 : Hid (Box0 B (w.alloc (.cells #[.int .i64 0, .int .i64 0, .string ⟨#[]⟩] 26))) := Box0.made hB
  have HW0 : Hid (Below B w (w.alloc (.cells #[.int .i64 0, .int .i64 0, .string ⟨#[]⟩] 26))) := by rw [Hid, ← hB]; exact alloc_below' _ _
  clear hB
  obtain ⟨vk, vi, vs⟩ := v
  have HV : Hid (IsVals (w.alloc (.cells #[.int .i64 0, .int .i64 0, .string ⟨#[]⟩] 26)) ao [⟨vk, vi, vs⟩]) := hv.next (alloc_below' _ _)
  have HS : Hid (∀ w : World, Calls Tryd.prog 29 #[.agg #[.int .i64 (vk), .int .i64 (vi), .string (vs)]] w fun e w' => e = .returned (.bool q) ∧ Below w.heap.size w w') := by
    intro w; rw [← hq]; exact rtrue_any vk vi vs w
  clear hv hq
  go_enter Tryd.func12, Tryd.ntmps12
  go_wp2_with fail
  refine (rknown_any ⟨#[110, 111, 116]⟩ true _ (by decide)).mono ?_
  rintro e w1 ⟨rfl, hb1⟩
  have HX1 : Hid (Box0 B w1) := HX0.out.next hb1
  have HW1 : Hid (Below B w w1) := below_next HW0.out hb1 (Nat.le_of_lt HX0.out.lt)
  rw [HB.out]
  obtain ⟨b, o, rfl, a0, a1, a2⟩ := first_val (HV.out.next hb1)
  clear hb1 HV
  go_wp2_with (go_at_call 28; refine (fits6_any ⟨#[110, 111, 116]⟩ 1 true _ (by decide)).mono ?_; rintro e w2 ⟨rfl, rfl⟩)
  refine (HS.out _).mono ?_
  rintro e w2 ⟨rfl, hb2⟩
  go_wp2_with fail
  refine (rbool_any _ _).mono ?_
  rintro e w3 ⟨rfl, hb3⟩
  obtain ⟨⟨p0, p1, p2⟩, pf⟩ := (HX1.out.next hb2).next hb3
  have b3 : Hid (Below B w w3) := below_next HW1.out (next_trans' hb2 hb3) (Nat.le_of_lt HX1.out.lt)
  clear hb2 hb3
  go_wp2
  refine bodyPost_ret (v := .tuple #[.agg #[.int .i64 (2), .int .i64 (0), .string (boolS (!q))], .int .i64 0]) (by simp [results, Tryd.results12, go_sem, *]) rfl ⟨rfl, ?_⟩
  exact set3 b3.out _ _ _

set_option maxHeartbeats 4000000 in
set_option maxRecDepth 4000 in
theorem rap_12 (a b : Int) (s : ByteArray) (k i e0 : Int) (t : ByteArray) (ao : Option Addr) (cap B : Nat) (w : World) (hB : w.heap.size = B) (hv : IsVals w ao [⟨a, b, s⟩]) (hr : lengthR ⟨a, b, s⟩ = (⟨k, i, t⟩, e0)) :
    Calls Tryd.prog 12 #[.string ⟨#[108, 101, 110, 103, 116, 104]⟩, .slice ao 1 cap] w fun e w' => e = .returned (.tuple #[.agg #[.int .i64 (k), .int .i64 (i), .string (t)], .int .i64 e0]) ∧ Below B w w' := by
  have HB : Hid (w.heap.size = B) := hB
  have HX0 : Hid (Box0 B (w.alloc (.cells #[.int .i64 0, .int .i64 0, .string ⟨#[]⟩] 26))) := Box0.made hB
  have HW0 : Hid (Below B w (w.alloc (.cells #[.int .i64 0, .int .i64 0, .string ⟨#[]⟩] 26))) := by rw [Hid, ← hB]; exact alloc_below' _ _
  clear hB
  have HV : Hid (IsVals (w.alloc (.cells #[.int .i64 0, .int .i64 0, .string ⟨#[]⟩] 26)) ao [⟨a, b, s⟩]) := hv.next (alloc_below' _ _)
  unfold lengthR at hr
  clear hv
  by_cases h3 : a = 3
  · have HE : Hid (((⟨1, (s.size : Int), ⟨#[]⟩⟩ : Val), (0 : Int)) = (⟨k, i, t⟩, e0)) := by rw [if_pos h3] at hr; exact hr
    subst h3
    clear hr
    go_enter Tryd.func12, Tryd.ntmps12
    go_wp2_with fail
    refine (rknown_any ⟨#[108, 101, 110, 103, 116, 104]⟩ true _ (by decide)).mono ?_
    rintro e w1 ⟨rfl, hb1⟩
    have HX1 : Hid (Box0 B w1) := HX0.out.next hb1
    have HW1 : Hid (Below B w w1) := below_next HW0.out hb1 (Nat.le_of_lt HX0.out.lt)
    rw [HB.out]
    obtain ⟨b, o, rfl, a0, a1, a2⟩ := first_val (HV.out.next hb1)
    clear hb1 HV
    go_wp2_with (go_at_call 28; refine (fits6_any ⟨#[108, 101, 110, 103, 116, 104]⟩ 1 true _ (by decide)).mono ?_; rintro e w2 ⟨rfl, rfl⟩)
    refine (rint_any _ _).mono ?_
    rintro e w3 ⟨rfl, hb3⟩
    obtain ⟨⟨p0, p1, p2⟩, pf⟩ := HX1.out.next hb3
    have b3 : Hid (Below B w w3) := below_next HW1.out hb3 (Nat.le_of_lt HX1.out.lt)
    clear hb3
    go_wp2
    refine bodyPost_ret (v := .tuple #[.agg #[.int .i64 (1), .int .i64 ((s.size : Int)), .string (⟨#[]⟩)], .int .i64 0]) (by simp [results, Tryd.results12, go_sem, *]) rfl ⟨ret_ve HE.out, ?_⟩
    exact set3 b3.out _ _ _
  · have HE : Hid (((⟨0, 0, ⟨#[]⟩⟩ : Val), (8 : Int)) = (⟨k, i, t⟩, e0)) := by rw [if_neg h3] at hr; exact hr
    have d3 : (a != 3) = true := by simpa using h3
    clear hr h3
    go_enter Tryd.func12, Tryd.ntmps12
    go_wp2_with fail
    refine (rknown_any ⟨#[108, 101, 110, 103, 116, 104]⟩ true _ (by decide)).mono ?_
    rintro e w1 ⟨rfl, hb1⟩
    have HX1 : Hid (Box0 B w1) := HX0.out.next hb1
    have HW1 : Hid (Below B w w1) := below_next HW0.out hb1 (Nat.le_of_lt HX0.out.lt)
    rw [HB.out]
    obtain ⟨b, o, rfl, a0, a1, a2⟩ := first_val (HV.out.next hb1)
    obtain ⟨⟨p0, p1, p2⟩, pf⟩ := HX1.out
    clear hb1 HV
    go_wp2_with (go_at_call 28; refine (fits6_any ⟨#[108, 101, 110, 103, 116, 104]⟩ 1 true _ (by decide)).mono ?_; rintro e w2 ⟨rfl, rfl⟩)
    refine bodyPost_ret (v := .tuple #[.agg #[.int .i64 (0), .int .i64 (0), .string (⟨#[]⟩)], .int .i64 8]) (by simp [results, Tryd.results12, go_sem, *]) rfl ⟨ret_ve HE.out, ?_⟩
    exact set3 HW1.out _ _ _

set_option maxHeartbeats 4000000 in
set_option maxRecDepth 4000 in
theorem rap_20 (a c : Int) (s X : ByteArray) (ao : Option Addr) (cap B : Nat) (w : World) (hB : w.heap.size = B) (hv : IsVals w ao [⟨a, c, s⟩]) (ha : a = 1 ∨ a = 2 ∨ a = 3) (hX : typeS a = X) :
    Calls Tryd.prog 12 #[.string ⟨#[116, 121, 112, 101]⟩, .slice ao 1 cap] w fun e w' => e = .returned (.tuple #[.agg #[.int .i64 (2), .int .i64 (0), .string (X)], .int .i64 0]) ∧ Below B w w' := by
  have HB : Hid (w.heap.size = B) := hB
  have HX0 : Hid (Box0 B (w.alloc (.cells #[.int .i64 0, .int .i64 0, .string ⟨#[]⟩] 26))) := Box0.made hB
  have HW0 : Hid (Below B w (w.alloc (.cells #[.int .i64 0, .int .i64 0, .string ⟨#[]⟩] 26))) := by rw [Hid, ← hB]; exact alloc_below' _ _
  clear hB
  have HV : Hid (IsVals (w.alloc (.cells #[.int .i64 0, .int .i64 0, .string ⟨#[]⟩] 26)) ao [⟨a, c, s⟩]) := hv.next (alloc_below' _ _)
  have Hs : Hid (∀ (Y : ByteArray) (w : World), typeS a = Y → Calls Tryd.prog 24 #[.string Y] w fun e w' => e = .returned (.agg #[.int .i64 (2), .int .i64 (0), .string (X)]) ∧ Below w.heap.size w w') := by
    intro Y w hY
    rw [← hX, hY]
    exact rsym_any Y w
  clear hv hX
  rcases ha with rfl | rfl | rfl
  all_goals
    go_enter Tryd.func12, Tryd.ntmps12
    go_wp2_with fail
    refine (rknown_any ⟨#[116, 121, 112, 101]⟩ true _ (by decide)).mono ?_
    rintro e w1 ⟨rfl, hb1⟩
    have HX1 : Hid (Box0 B w1) := HX0.out.next hb1
    have HW1 : Hid (Below B w w1) := below_next HW0.out hb1 (Nat.le_of_lt HX0.out.lt)
    rw [HB.out]
    obtain ⟨b, o, rfl, a0, a1, a2⟩ := first_val (HV.out.next hb1)
    clear hb1 HV
    go_wp2_with (go_at_call 28; refine (fits6_any ⟨#[116, 121, 112, 101]⟩ 1 true _ (by decide)).mono ?_; rintro e w2 ⟨rfl, rfl⟩)
    refine (Hs.out _ _ rfl).mono ?_
    rintro e w3 ⟨rfl, hb3⟩
    obtain ⟨⟨p0, p1, p2⟩, pf⟩ := HX1.out.next hb3
    have b3 : Hid (Below B w w3) := below_next HW1.out hb3 (Nat.le_of_lt HX1.out.lt)
    clear hb3 Hs
    go_wp2
    refine bodyPost_ret (v := .tuple #[.agg #[.int .i64 (2), .int .i64 (0), .string (X)], .int .i64 0]) (by simp [results, Tryd.results12, go_sem, *]) rfl ⟨rfl, ?_⟩
    exact set3 b3.out _ _ _

set_option maxHeartbeats 4000000 in
set_option maxRecDepth 4000 in
theorem rap_num (s : ByteArray) (k i e0 : Int) (t : ByteArray) (L : List Val) (ao : Option Addr) (cap N B : Nat) (w : World) (hB : w.heap.size = B) (hc : code s ≠ 21) (hs : sumC (code s) = true ∨ cmpC (code s) = true) (hf : fitC (code s) N = true) (hv : IsVals w ao L) (hC : ∀ w1 B1 : _, w1.heap.size = B1 → IsVals w1 ao L → Calls Tryd.prog 30 #[.string s, .slice ao N cap] w1 fun e w2 => e = .returned (.tuple #[.agg #[.int .i64 (k), .int .i64 (i), .string (t)], .int .i64 e0]) ∧ Below B1 w1 w2) :
    Calls Tryd.prog 12 #[.string s, .slice ao N cap] w fun e w' => e = .returned (.tuple #[.agg #[.int .i64 (k), .int .i64 (i), .string (t)], .int .i64 e0]) ∧ Below B w w' := by
  have HB : Hid (w.heap.size = B) := hB
  have HX0 : Hid (Box0 B (w.alloc (.cells #[.int .i64 0, .int .i64 0, .string ⟨#[]⟩] 26))) := Box0.made hB
  have HW0 : Hid (Below B w (w.alloc (.cells #[.int .i64 0, .int .i64 0, .string ⟨#[]⟩] 26))) := by rw [Hid, ← hB]; exact alloc_below' _ _
  clear hB
  have HV : Hid (IsVals (w.alloc (.cells #[.int .i64 0, .int .i64 0, .string ⟨#[]⟩] 26)) ao L) := hv.next (alloc_below' _ _)
  have HK : Hid (knownB s = true) := known_is hc
  have HF : Hid (fitC (code s) N = true) := hf
  have HC : Hid (∀ w1 B1 : _, w1.heap.size = B1 → IsVals w1 ao L → Calls Tryd.prog 30 #[.string s, .slice ao N cap] w1 fun e w2 => e = .returned (.tuple #[.agg #[.int .i64 (k), .int .i64 (i), .string (t)], .int .i64 e0]) ∧ Below B1 w1 w2) := hC
  have hx : (s.toList == [101, 113]) = false ∧ (s.toList == [110, 101, 113]) = false ∧ (s.toList == [110, 111, 116]) = false ∧ (s.toList == [108, 101, 110, 103, 116, 104]) = false ∧ (s.toList == [116, 121, 112, 101]) = false ∧ (s.toList == [115, 121, 109, 45, 99, 97, 116]) = false ∧ (s.toList == [115, 116, 114, 45, 99, 97, 116]) = false := by
    refine ⟨ne_list ?_, ne_list ?_, ne_list ?_, ne_list ?_, ne_list ?_, ne_list ?_, ne_list ?_⟩ <;> (rintro rfl; rcases hs with hs | hs <;> exact absurd hs (by decide))
  obtain ⟨x1, x2, x3, x4, x5, x6, x7⟩ := hx
  clear hc hf hC hs hv
  go_enter Tryd.func12, Tryd.ntmps12
  go_wp2_with fail
  refine (rknown_any s true _ HK.out).mono ?_
  rintro e w1 ⟨rfl, hb1⟩
  have HX1 : Hid (Box0 B w1) := HX0.out.next hb1
  have HW1 : Hid (Below B w w1) := below_next HW0.out hb1 (Nat.le_of_lt HX0.out.lt)
  rw [HB.out]
  have HV1 : Hid (IsVals w1 ao L) := HV.out.next hb1
  clear hb1 HV
  go_wp2_with (go_at_call 28; refine (fits6_any s N true _ HF.out).mono ?_; rintro e w2 ⟨rfl, rfl⟩)
  refine (HC.out _ _ rfl HV1.out).mono ?_
  rintro e w3 ⟨rfl, hb3⟩
  obtain ⟨⟨p0, p1, p2⟩, pf⟩ := HX1.out.next hb3
  have b3 : Hid (Below B w w3) := below_next HW1.out hb3 (Nat.le_of_lt HX1.out.lt)
  clear hb3
  go_wp2
  refine bodyPost_ret (v := .tuple #[.agg #[.int .i64 (k), .int .i64 (i), .string (t)], .int .i64 e0]) (by simp [results, Tryd.results12, go_sem, *]) rfl ⟨rfl, ?_⟩
  exact set3 b3.out _ _ _

set_option maxHeartbeats 4000000 in
set_option maxRecDepth 4000 in
theorem rap_18 (k i e0 : Int) (t : ByteArray) (L : List Val) (ao : Option Addr) (cap N B : Nat) (w : World) (hB : w.heap.size = B) (hN : L.length = N) (hn : N ≤ 100) (hf : fitC 18 N = true) (hv : IsVals w ao L) (hR : ∀ v ∈ L, rightV v) (hr : strcatR L = (⟨k, i, t⟩, e0)) :
    Calls Tryd.prog 12 #[.string ⟨#[115, 116, 114, 45, 99, 97, 116]⟩, .slice ao N cap] w fun e w' => e = .returned (.tuple #[.agg #[.int .i64 (k), .int .i64 (i), .string (t)], .int .i64 e0]) ∧ Below B w w' := by
  have HB : Hid (w.heap.size = B) := hB
  have HX0 : Hid (Box0 B (w.alloc (.cells #[.int .i64 0, .int .i64 0, .string ⟨#[]⟩] 26))) := Box0.made hB
  have HW0 : Hid (Below B w (w.alloc (.cells #[.int .i64 0, .int .i64 0, .string ⟨#[]⟩] 26))) := by rw [Hid, ← hB]; exact alloc_below' _ _
  clear hB
  have HV : Hid (IsVals (w.alloc (.cells #[.int .i64 0, .int .i64 0, .string ⟨#[]⟩] 26)) ao L) := hv.next (alloc_below' _ _)
  have HF : Hid (fitC (code ⟨#[115, 116, 114, 45, 99, 97, 116]⟩) N = true) := hf
  have HR : Hid (∀ v ∈ L, rightV v) := hR
  have HN : Hid (L.length = N) := hN
  have HX : Hid (strcatR L = (⟨k, i, t⟩, e0)) := hr
  clear hv hR hN hr hf
  go_enter Tryd.func12, Tryd.ntmps12
  go_wp2_with fail
  refine (rknown_any ⟨#[115, 116, 114, 45, 99, 97, 116]⟩ true _ (by decide)).mono ?_
  rintro e w1 ⟨rfl, hb1⟩
  have HX1 : Hid (Box0 B w1) := HX0.out.next hb1
  have HW1 : Hid (Below B w w1) := below_next HW0.out hb1 (Nat.le_of_lt HX0.out.lt)
  rw [HB.out]
  have HV1 : Hid (IsVals w1 ao L) := HV.out.next hb1
  clear hb1 HV
  go_wp2_with (go_at_call 28; refine (fits6_any ⟨#[115, 116, 114, 45, 99, 97, 116]⟩ N true _ HF.out).mono ?_; rintro e w2 ⟨rfl, rfl⟩)
  go_loopw [6, 7] (fun x y wr => ∃ (j : Nat) (X : ByteArray), j ≤ N ∧ y = .int .i64 j ∧ x = .string X ∧ Hid (X.data.toList = catL (L.take j)) ∧ Hid (Below w2.heap.size w2 wr)) (fun _ y _ => N - (intOf y).toNat)
  case atStart => exact ⟨0, _, Nat.zero_le _, rfl, rfl, rfl, Below.refl _ _⟩
  case round =>
    obtain ⟨j, X, hj, rfl, rfl, HT, HWr⟩ := hrel
    have HXs : Hid (X.size ≤ 1000 * N) := by
      rw [Hid, Lib.size_eq, HT.out]
      have h1 := catL_le L j
      have h2 := catL_len HR.out
      rw [HN.out] at h2
      omega
    have hxs : X.size ≤ 100000 := by have := HXs.out; omega
    by_cases hlt : j < N
    · have hki : (j : Int) < (N : Int) := by omega
      obtain ⟨v, HG⟩ : ∃ v, Hid (L[j]? = some v) := ⟨_, List.getElem?_eq_getElem (by rw [HN.out]; exact hlt)⟩
      obtain ⟨b, o, rfl, c0, c1, c2⟩ := (HV1.out.next HWr.out) j v HG.out
      have Hrv : Hid (rightV v) := right_get HR.out HG.out
      obtain ⟨T, HTx⟩ : ∃ T : ByteArray, Hid (T = ⟨(plainL v).toArray⟩) := ⟨_, rfl⟩
      have HTs : Hid (T.size = (plainL v).length) := by rw [Hid, HTx.out]; rfl
      have ht1 : T.size ≤ 1000 := by rw [HTs.out]; exact plainL_len Hrv.out
      have HT2 : Hid ((X ++ T).data.toList = catL (L.take (j + 1))) := by rw [Hid, ba_app, HT.out, HTx.out, catL_take L j _ HG.out]
      obtain ⟨vk, vi, vs⟩ := v
      go_wp2_with fail
      refine (rplain_any vk vi vs T _ (right_kind Hrv.out.1) (right_bd Hrv.out) Hrv.out.2 HTx.out).mono ?_
      rintro e w4 ⟨rfl, hb4⟩
      have HW4 : Hid (Below w2.heap.size w2 w4) := next_trans' HWr.out hb4
      clear hb4
      go_wp2
      go_roundw
      case rel => exact ⟨j + 1, _, by omega, by go_num, rfl, HT2, HW4⟩
      case measure => simp [intOf]; omega
    · have hki : ¬ (j : Int) < (N : Int) := by omega
      have HXe : Hid (catS L = X) := by
        rw [Hid]
        apply ba_ext
        rw [HT.out, List.take_of_length_le (by rw [HN.out]; omega)]
        rfl
      have HXl : Hid ((catL L).length = X.size) := by rw [Hid, ← HXe.out]; rfl
      have HX2 : Hid (Box0 B wr) := HX1.out.next HWr.out
      have HW2 : Hid (Below B w wr) := below_next HW1.out HWr.out (Nat.le_of_lt HX1.out.lt)
      have HEx := HX.out
      unfold strcatR at HEx
      rw [HXl.out, HXe.out] at HEx
      clear HT HXs hlt hj HX
      by_cases hc : 1000 < X.size
      · have HE : Hid (((⟨0, 0, ⟨#[]⟩⟩ : Val), (4 : Int)) = (⟨k, i, t⟩, e0)) := by rw [if_pos hc] at HEx; exact HEx
        have hci : (1000 : Int) < (X.size : Int) := by omega
        obtain ⟨⟨p0, p1, p2⟩, pf⟩ := HX2.out
        clear HEx hc
        go_wp2
        refine bodyPost_ret (v := .tuple #[.agg #[.int .i64 (0), .int .i64 (0), .string (⟨#[]⟩)], .int .i64 4]) (by simp [results, Tryd.results12, go_sem, *]) rfl ⟨ret_ve HE.out, ?_⟩
        exact set3 HW2.out _ _ _
      · have HE : Hid (((⟨3, 0, X⟩ : Val), (0 : Int)) = (⟨k, i, t⟩, e0)) := by rw [if_neg hc] at HEx; exact HEx
        have hci : ¬ (1000 : Int) < (X.size : Int) := by omega
        clear HEx hc
        go_wp2_with fail
        refine (rstr_any X _).mono ?_
        rintro e w3 ⟨rfl, hb3⟩
        obtain ⟨⟨p0, p1, p2⟩, pf⟩ := HX2.out.next hb3
        have b3 : Hid (Below B w w3) := below_next HW2.out hb3 (Nat.le_of_lt HX2.out.lt)
        clear hb3
        go_wp2
        refine bodyPost_ret (v := .tuple #[.agg #[.int .i64 (3), .int .i64 (0), .string (X)], .int .i64 0]) (by simp [results, Tryd.results12, go_sem, *]) rfl ⟨ret_ve HE.out, ?_⟩
        exact set3 b3.out _ _ _

set_option maxHeartbeats 4000000 in
set_option maxRecDepth 4000 in
theorem rap_19 (k i e0 : Int) (t : ByteArray) (L : List Val) (ao : Option Addr) (cap N B : Nat) (w : World) (hB : w.heap.size = B) (hN : L.length = N) (hn : N ≤ 100) (hf : fitC 19 N = true) (hv : IsVals w ao L) (hR : ∀ v ∈ L, rightV v) (hr : symcatR L = (⟨k, i, t⟩, e0)) :
    Calls Tryd.prog 12 #[.string ⟨#[115, 121, 109, 45, 99, 97, 116]⟩, .slice ao N cap] w fun e w' => e = .returned (.tuple #[.agg #[.int .i64 (k), .int .i64 (i), .string (t)], .int .i64 e0]) ∧ Below B w w' := by
  have HB : Hid (w.heap.size = B) := hB
  have HX0 : Hid (Box0 B (w.alloc (.cells #[.int .i64 0, .int .i64 0, .string ⟨#[]⟩] 26))) := Box0.made hB
  have HW0 : Hid (Below B w (w.alloc (.cells #[.int .i64 0, .int .i64 0, .string ⟨#[]⟩] 26))) := by rw [Hid, ← hB]; exact alloc_below' _ _
  clear hB
  have HV : Hid (IsVals (w.alloc (.cells #[.int .i64 0, .int .i64 0, .string ⟨#[]⟩] 26)) ao L) := hv.next (alloc_below' _ _)
  have HF : Hid (fitC (code ⟨#[115, 121, 109, 45, 99, 97, 116]⟩) N = true) := hf
  have HR : Hid (∀ v ∈ L, rightV v) := hR
  have HN : Hid (L.length = N) := hN
  have HX : Hid (symcatR L = (⟨k, i, t⟩, e0)) := hr
  clear hv hR hN hr hf
  go_enter Tryd.func12, Tryd.ntmps12
  go_wp2_with fail
  refine (rknown_any ⟨#[115, 121, 109, 45, 99, 97, 116]⟩ true _ (by decide)).mono ?_
  rintro e w1 ⟨rfl, hb1⟩
  have HX1 : Hid (Box0 B w1) := HX0.out.next hb1
  have HW1 : Hid (Below B w w1) := below_next HW0.out hb1 (Nat.le_of_lt HX0.out.lt)
  rw [HB.out]
  have HV1 : Hid (IsVals w1 ao L) := HV.out.next hb1
  clear hb1 HV
  go_wp2_with (go_at_call 28; refine (fits6_any ⟨#[115, 121, 109, 45, 99, 97, 116]⟩ N true _ HF.out).mono ?_; rintro e w2 ⟨rfl, rfl⟩)
  go_loopw [6, 7] (fun x y wr => ∃ (j : Nat) (X : ByteArray), j ≤ N ∧ y = .int .i64 j ∧ x = .string X ∧ Hid (X.data.toList = catL (L.take j)) ∧ Hid (Below w2.heap.size w2 wr)) (fun _ y _ => N - (intOf y).toNat)
  case atStart => exact ⟨0, _, Nat.zero_le _, rfl, rfl, rfl, Below.refl _ _⟩
  case round =>
    obtain ⟨j, X, hj, rfl, rfl, HT, HWr⟩ := hrel
    have HXs : Hid (X.size ≤ 1000 * N) := by
      rw [Hid, Lib.size_eq, HT.out]
      have h1 := catL_le L j
      have h2 := catL_len HR.out
      rw [HN.out] at h2
      omega
    have hxs : X.size ≤ 100000 := by have := HXs.out; omega
    by_cases hlt : j < N
    · have hki : (j : Int) < (N : Int) := by omega
      obtain ⟨v, HG⟩ : ∃ v, Hid (L[j]? = some v) := ⟨_, List.getElem?_eq_getElem (by rw [HN.out]; exact hlt)⟩
      obtain ⟨b, o, rfl, c0, c1, c2⟩ := (HV1.out.next HWr.out) j v HG.out
      have Hrv : Hid (rightV v) := right_get HR.out HG.out
      obtain ⟨T, HTx⟩ : ∃ T : ByteArray, Hid (T = ⟨(plainL v).toArray⟩) := ⟨_, rfl⟩
      have HTs : Hid (T.size = (plainL v).length) := by rw [Hid, HTx.out]; rfl
      have ht1 : T.size ≤ 1000 := by rw [HTs.out]; exact plainL_len Hrv.out
      have HT2 : Hid ((X ++ T).data.toList = catL (L.take (j + 1))) := by rw [Hid, ba_app, HT.out, HTx.out, catL_take L j _ HG.out]
      obtain ⟨vk, vi, vs⟩ := v
      go_wp2_with fail
      refine (rplain_any vk vi vs T _ (right_kind Hrv.out.1) (right_bd Hrv.out) Hrv.out.2 HTx.out).mono ?_
      rintro e w4 ⟨rfl, hb4⟩
      have HW4 : Hid (Below w2.heap.size w2 w4) := next_trans' HWr.out hb4
      clear hb4
      go_wp2
      go_roundw
      case rel => exact ⟨j + 1, _, by omega, by go_num, rfl, HT2, HW4⟩
      case measure => simp [intOf]; omega
    · have hki : ¬ (j : Int) < (N : Int) := by omega
      have HXe : Hid (catS L = X) := by
        rw [Hid]
        apply ba_ext
        rw [HT.out, List.take_of_length_le (by rw [HN.out]; omega)]
        rfl
      have HXl : Hid ((catL L).length = X.size) := by rw [Hid, ← HXe.out]; rfl
      have HX2 : Hid (Box0 B wr) := HX1.out.next HWr.out
      have HW2 : Hid (Below B w wr) := below_next HW1.out HWr.out (Nat.le_of_lt HX1.out.lt)
      have HEx := HX.out
      unfold symcatR at HEx
      rw [HXl.out, HXe.out] at HEx
      clear HT HXs hlt hj HX
      by_cases hc : 40 < X.size
      · have HE : Hid (((⟨0, 0, ⟨#[]⟩⟩ : Val), (4 : Int)) = (⟨k, i, t⟩, e0)) := by rw [if_pos hc] at HEx; exact HEx
        have hci : (40 : Int) < (X.size : Int) := by omega
        obtain ⟨⟨p0, p1, p2⟩, pf⟩ := HX2.out
        clear HEx hc
        go_wp2
        refine bodyPost_ret (v := .tuple #[.agg #[.int .i64 (0), .int .i64 (0), .string (⟨#[]⟩)], .int .i64 4]) (by simp [results, Tryd.results12, go_sem, *]) rfl ⟨ret_ve HE.out, ?_⟩
        exact set3 HW2.out _ _ _
      · rw [if_neg hc] at HEx
        have hci : ¬ (40 : Int) < (X.size : Int) := by omega
        obtain ⟨q, HQ⟩ : ∃ q, Hid (symB X = q) := ⟨_, rfl⟩
        have HQr : Hid (∀ w : World, Calls Tryd.prog 10 #[.agg #[.int .i64 (2), .int .i64 (0), .string (X)]] w fun e w' => e = .returned (.bool q) ∧ Below w.heap.size w w') := by
          intro w
          have h := rright_any 2 0 X w hxs
          have e : rightB 2 0 X = q := by rw [right_sym, HQ.out]; rfl
          rw [e] at h
          exact h
        rw [HQ.out] at HEx
        cases q
        · have HE : Hid (((⟨0, 0, ⟨#[]⟩⟩ : Val), (2 : Int)) = (⟨k, i, t⟩, e0)) := by rw [if_neg (by decide)] at HEx; exact HEx
          clear HEx hc
          go_wp2_with fail
          refine (rsym_any X _).mono ?_
          rintro e w3 ⟨rfl, hb3⟩
          go_wp2_with fail
          refine (HQr.out _).mono ?_
          rintro e w4 ⟨rfl, hb4⟩
          obtain ⟨⟨p0, p1, p2⟩, pf⟩ := (HX2.out.next hb3).next hb4
          have b3 : Hid (Below B w w4) := below_next HW2.out (next_trans' hb3 hb4) (Nat.le_of_lt HX2.out.lt)
          clear hb3 hb4 HQr
          go_wp2
          refine bodyPost_ret (v := .tuple #[.agg #[.int .i64 (0), .int .i64 (0), .string (⟨#[]⟩)], .int .i64 2]) (by simp [results, Tryd.results12, go_sem, *]) rfl ⟨ret_ve HE.out, ?_⟩
          exact set3 b3.out _ _ _
        · have HE : Hid (((⟨2, 0, X⟩ : Val), (0 : Int)) = (⟨k, i, t⟩, e0)) := by rw [if_pos rfl] at HEx; exact HEx
          clear HEx hc
          go_wp2_with fail
          refine (rsym_any X _).mono ?_
          rintro e w3 ⟨rfl, hb3⟩
          go_wp2_with fail
          refine (HQr.out _).mono ?_
          rintro e w4 ⟨rfl, hb4⟩
          go_wp2_with fail
          refine (rsym_any X _).mono ?_
          rintro e w5 ⟨rfl, hb5⟩
          obtain ⟨⟨p0, p1, p2⟩, pf⟩ := ((HX2.out.next hb3).next hb4).next hb5
          have b3 : Hid (Below B w w5) := below_next HW2.out (next_trans' (next_trans' hb3 hb4) hb5) (Nat.le_of_lt HX2.out.lt)
          clear hb3 hb4 hb5 HQr
          go_wp2
          refine bodyPost_ret (v := .tuple #[.agg #[.int .i64 (2), .int .i64 (0), .string (X)], .int .i64 0]) (by simp [results, Tryd.results12, go_sem, *]) rfl ⟨ret_ve HE.out, ?_⟩
          exact set3 b3.out _ _ _

/-- Any name, any right values. -/
theorem rapply_any (s : ByteArray) (k i e0 : Int) (t : ByteArray) (ao : Option Addr) (cap N : Nat) (L : List Val) (w : World) (hN : L.length = N) (hn : N ≤ 100) (hv : IsVals w ao L) (hcp : ao = none → N = 0 ∧ cap = 0) (hR : ∀ v ∈ L, rightV v) (hr : applyR (code s) L = (⟨k, i, t⟩, e0)) :
    Calls Tryd.prog 12 #[.string s, .slice ao N cap] w fun e w' => e = .returned (.tuple #[.agg #[.int .i64 (k), .int .i64 (i), .string (t)], .int .i64 e0]) ∧ Below w.heap.size w w' := by
  unfold applyR at hr
  by_cases hc : code s = 21
  · rw [if_pos hc] at hr
    rw [← ret_ve hr]
    exact rap_none s ao cap N _ w rfl hc
  rw [if_neg hc, hN] at hr
  cases hf : fitC (code s) N
  · rw [if_neg (by rw [hf]; decide)] at hr
    rw [← ret_ve hr]
    exact rap_arg s ao cap N _ w rfl hc hf
  rw [if_pos hf] at hr
  have hl : ∀ v ∈ L, inB v.i = true := fun v h => (hR v h).2
  have num : (sumC (code s) = true ∨ cmpC (code s) = true) → numbersR (code s) L = (⟨k, i, t⟩, e0) → Calls Tryd.prog 12 #[.string s, .slice ao N cap] w fun e w' => e = .returned (.tuple #[.agg #[.int .i64 (k), .int .i64 (i), .string (t)], .int .i64 e0]) ∧ Below w.heap.size w w' :=
    fun h1 h2 => rap_num s k i e0 t L ao cap N _ w rfl hc h1 hf hv (fun w1 B1 hB1 hv1 => rnums_any s k i e0 t ao cap N B1 L w1 hB1 hN hv1 (by omega) hcp hl h1 hf h2)
  have two : loC (code s) = 2 → hiC (code s) = 2 → N = 2 := fun h1 h2 => by
    unfold fitC at hf; rw [decide_eq_true_eq] at hf; omega
  have one : loC (code s) = 1 → hiC (code s) = 1 → N = 1 := fun h1 h2 => by
    unfold fitC at hf; rw [decide_eq_true_eq] at hf; omega
  rcases code_cases s with rfl | rfl | rfl | rfl | rfl | rfl | rfl | rfl | rfl | rfl | rfl | rfl | rfl | rfl | rfl | rfl | rfl | rfl | rfl | rfl | rfl | hx
  · exact num (.inl rfl) hr
  · exact num (.inl rfl) hr
  · exact num (.inl rfl) hr
  · exact num (.inr rfl) hr
  · exact num (.inr rfl) hr
  · exact num (.inr rfl) hr
  · exact num (.inr rfl) hr
  · exact num (.inr rfl) hr
  · exact num (.inr rfl) hr
  · exact num (.inl rfl) hr
  · exact num (.inl rfl) hr
  · obtain ⟨v, u, rfl⟩ := len_two (hN.trans (two rfl rfl))
    subst hN
    have h : ((⟨2, 0, boolS (sameV v u)⟩ : Val), (0 : Int)) = (⟨k, i, t⟩, e0) := hr
    rw [← ret_ve h]
    exact rap_11 v u _ ao cap _ w rfl hv rfl
  · obtain ⟨⟨a, b, q⟩, rfl⟩ := len_one (hN.trans (one rfl rfl))
    subst hN
    exact rap_12 a b q k i e0 t ao cap _ w rfl hv hr
  · exact num (.inl rfl) hr
  · exact num (.inl rfl) hr
  · exact num (.inl rfl) hr
  · obtain ⟨v, u, rfl⟩ := len_two (hN.trans (two rfl rfl))
    subst hN
    have h : ((⟨2, 0, boolS (!sameV v u)⟩ : Val), (0 : Int)) = (⟨k, i, t⟩, e0) := hr
    rw [← ret_ve h]
    exact rap_16 v u _ ao cap _ w rfl hv rfl
  · obtain ⟨v, rfl⟩ := len_one (hN.trans (one rfl rfl))
    subst hN
    have h : ((⟨2, 0, boolS (!trueB v.k v.i v.s)⟩ : Val), (0 : Int)) = (⟨k, i, t⟩, e0) := hr
    rw [← ret_ve h]
    exact rap_17 v _ ao cap _ w rfl hv rfl
  · exact rap_18 k i e0 t L ao cap N _ w rfl hN hn hf hv hR hr
  · exact rap_19 k i e0 t L ao cap N _ w rfl hN hn hf hv hR hr
  · obtain ⟨⟨a, b, q⟩, rfl⟩ := len_one (hN.trans (one rfl rfl))
    subst hN
    have h : ((⟨2, 0, typeS a⟩ : Val), (0 : Int)) = (⟨k, i, t⟩, e0) := hr
    rw [← ret_ve h]
    exact rap_20 a b q _ ao cap _ w rfl hv (right_kind (hR ⟨a, b, q⟩ (by simp)).1) rfl
  · exact absurd (code_none hx) hc
end Go.Proofs.YtfglmfldpmpofaaDoor
