/- The contract of package built's answer: what a name tells of as many values as it takes. -/
import Derived.Test.YtfglmfldpmpofaaDoorBtText2
import Derived.Test.YtfglmfldpmpofaaDoorBtTrue
import Derived.Deep.RegionWith
namespace Go.Proofs.YtfglmfldpmpofaaDoor
open Go.RowKit

theorem below_undrew {B : Nat} {W w1 : World} (h : Below B W.drew w1) : Below B W w1 := ⟨h.os, h.tape, h.output, h.size, h.block⟩

set_option maxHeartbeats 1000000 in
set_option maxRecDepth 4000 in
theorem answer_11 (v u : Val) (q : Bool) (ao : Option Addr) (cap : Nat) (w : World) (hv : IsVals w ao [v, u]) (hq : sameV v u = q) :
    Calls Tryd.prog 27 #[.string ⟨#[101, 113]⟩, .slice ao 2 cap] w fun e w' => e = .returned (.tuple #[.agg #[.int .i64 (2), .int .i64 (0), .string (boolS q)], .int .i64 0]) ∧ Below w.heap.size w w' := by
  obtain ⟨B, HB⟩ : ∃ B, Hid (w.heap.size = B) := ⟨_, rfl⟩
  obtain ⟨vk, vi, vs⟩ := v
  obtain ⟨uk, ui, us⟩ := u
  obtain ⟨b, o, rfl, a0, a1, a2, a3, a4, a5⟩ := two_vals (hv.next (alloc_below' w (.cells #[.int .i64 0, .int .i64 0, .string ⟨#[]⟩] 26)))
  have HS : Hid (∀ w : World, Calls Tryd.prog 33 #[.agg #[.int .i64 (vk), .int .i64 (vi), .string (vs)], .agg #[.int .i64 (uk), .int .i64 (ui), .string (us)]] w fun e w' => e = .returned (.bool q) ∧ Below w.heap.size w w') := by
    intro w; rw [← hq]; exact same_any vk vi uk ui vs us w
  clear hv hq
  go_enter Tryd.func27, Tryd.ntmps27
  go_wp2
  go_region_with (first
    | (go_at_call 33; refine (HS.out _).mono ?_; rintro e w1 ⟨rfl, hb1⟩)
    | (go_at_call 32; refine (of_bool _ _).mono ?_; rintro e w2 ⟨rfl, hb2⟩; obtain ⟨⟨p0, p1, p2⟩, pf⟩ := box3_next (box3 HB.out (below_undrew hb1)) hb2; rw [HB.out]))
  all_goals
    have b2 : Hid (Below B w w2) := by rw [Hid, ← HB.out]; exact next_trans' (next_trans' (alloc_below' _ _) (below_undrew hb1)) hb2
    clear hb1 hb2
    go_wp2
    refine bodyPost_ret (v := .tuple #[.agg #[.int .i64 (2), .int .i64 (0), .string (boolS q)], .int .i64 0]) (by simp [results, Tryd.results27, go_sem, *]) rfl ⟨rfl, ?_⟩
    rw [HB.out]; exact set3 b2.out _ _ _
set_option maxHeartbeats 1000000 in
set_option maxRecDepth 4000 in
theorem answer_16 (v u : Val) (q : Bool) (ao : Option Addr) (cap : Nat) (w : World) (hv : IsVals w ao [v, u]) (hq : sameV v u = q) :
    Calls Tryd.prog 27 #[.string ⟨#[110, 101, 113]⟩, .slice ao 2 cap] w fun e w' => e = .returned (.tuple #[.agg #[.int .i64 (2), .int .i64 (0), .string (boolS (!q))], .int .i64 0]) ∧ Below w.heap.size w w' := by
  obtain ⟨B, HB⟩ : ∃ B, Hid (w.heap.size = B) := ⟨_, rfl⟩
  obtain ⟨vk, vi, vs⟩ := v
  obtain ⟨uk, ui, us⟩ := u
  obtain ⟨b, o, rfl, a0, a1, a2, a3, a4, a5⟩ := two_vals (hv.next (alloc_below' w (.cells #[.int .i64 0, .int .i64 0, .string ⟨#[]⟩] 26)))
  have HS : Hid (∀ w : World, Calls Tryd.prog 33 #[.agg #[.int .i64 (vk), .int .i64 (vi), .string (vs)], .agg #[.int .i64 (uk), .int .i64 (ui), .string (us)]] w fun e w' => e = .returned (.bool q) ∧ Below w.heap.size w w') := by
    intro w; rw [← hq]; exact same_any vk vi uk ui vs us w
  clear hv hq
  go_enter Tryd.func27, Tryd.ntmps27
  go_wp2
  go_region_with (first
    | (go_at_call 33; refine (HS.out _).mono ?_; rintro e w1 ⟨rfl, hb1⟩)
    | (go_at_call 32; refine (of_bool _ _).mono ?_; rintro e w2 ⟨rfl, hb2⟩; obtain ⟨⟨p0, p1, p2⟩, pf⟩ := box3_next (box3 HB.out (below_undrew hb1)) hb2; rw [HB.out]))
  all_goals
    have b2 : Hid (Below B w w2) := by rw [Hid, ← HB.out]; exact next_trans' (next_trans' (alloc_below' _ _) (below_undrew hb1)) hb2
    clear hb1 hb2
    go_wp2
    refine bodyPost_ret (v := .tuple #[.agg #[.int .i64 (2), .int .i64 (0), .string (boolS (!q))], .int .i64 0]) (by simp [results, Tryd.results27, go_sem, *]) rfl ⟨rfl, ?_⟩
    rw [HB.out]; exact set3 b2.out _ _ _
set_option maxHeartbeats 1000000 in
set_option maxRecDepth 4000 in
theorem answer_17 (v : Val) (q : Bool) (ao : Option Addr) (cap : Nat) (w : World) (hv : IsVals w ao [v]) (hq : trueB v.k v.i v.s = q) :
    Calls Tryd.prog 27 #[.string ⟨#[110, 111, 116]⟩, .slice ao 1 cap] w fun e w' => e = .returned (.tuple #[.agg #[.int .i64 (2), .int .i64 (0), .string (boolS (!q))], .int .i64 0]) ∧ Below w.heap.size w w' := by
  obtain ⟨B, HB⟩ : ∃ B, Hid (w.heap.size = B) := ⟨_, rfl⟩
  obtain ⟨vk, vi, vs⟩ := v
  obtain ⟨b, o, rfl, a0, a1, a2⟩ := first_val (hv.next (alloc_below' w (.cells #[.int .i64 0, .int .i64 0, .string ⟨#[]⟩] 26)))
  have HS : Hid (∀ w : World, Calls Tryd.prog 34 #[.agg #[.int .i64 (vk), .int .i64 (vi), .string (vs)]] w fun e w' => e = .returned (.bool q) ∧ Below w.heap.size w w') := by
    intro w; rw [← hq]; exact btrue_any vk vi vs w
  clear hv hq
  go_enter Tryd.func27, Tryd.ntmps27
  go_wp2_with fail
  refine (HS.out _).mono ?_
  rintro e w1 ⟨rfl, hb1⟩
  go_wp2_with fail
  refine (of_bool _ _).mono ?_
  rintro e w2 ⟨rfl, hb2⟩
  obtain ⟨⟨p0, p1, p2⟩, pf⟩ := box3_next (box3 HB.out hb1) hb2
  have b2 : Hid (Below B w w2) := by rw [Hid, ← HB.out]; exact next_trans' (next_trans' (alloc_below' _ _) hb1) hb2
  clear hb1 hb2
  rw [HB.out]
  go_wp2
  refine bodyPost_ret (v := .tuple #[.agg #[.int .i64 (2), .int .i64 (0), .string (boolS (!q))], .int .i64 0]) (by simp [results, Tryd.results27, go_sem, *]) rfl ⟨rfl, ?_⟩
  rw [HB.out]; exact set3 b2.out _ _ _
set_option maxHeartbeats 1000000 in
set_option maxRecDepth 4000 in
theorem answer_19  (k i e0 : Int) (t : ByteArray) (ao : Option Addr) (cap N : Nat) (L : List Val) (w : World) (hN : L.length = N) (hv : IsVals w ao L) (hn : N ≤ 100) (hR : ∀ v ∈ L, rightV v) (ht : TabW w) (hr : symcatR L = (⟨k, i, t⟩, e0)) :
    Calls Tryd.prog 27 #[.string ⟨#[115, 121, 109, 45, 99, 97, 116]⟩, .slice ao N cap] w fun e w' => e = .returned (.tuple #[.agg #[.int .i64 (k), .int .i64 (i), .string (t)], .int .i64 e0]) ∧ Below w.heap.size w w' := by
  obtain ⟨B, HB⟩ : ∃ B, Hid (w.heap.size = B) := ⟨_, rfl⟩
  have HV : IsVals (w.alloc (.cells #[.int .i64 0, .int .i64 0, .string ⟨#[]⟩] 26)) ao L := hv.next (alloc_below' _ _)
  have HC : Hid (∀ w1 : World, w1 = w.alloc (.cells #[.int .i64 0, .int .i64 0, .string ⟨#[]⟩] 26) → Calls Tryd.prog 35 #[.slice ao N cap] w1 fun e w' => e = .returned (.tuple #[.agg #[.int .i64 (k), .int .i64 (i), .string (t)], .int .i64 e0]) ∧ Below w1.heap.size w1 w') := by
    rintro w1 rfl
    exact jsym_any k i e0 t ao cap N L _ hN hn HV hR (tab_alloc ht) hr
  clear HV hv hN hR ht hr
  go_enter Tryd.func27, Tryd.ntmps27
  go_wp2_with fail
  refine (HC.out _ rfl).mono ?_
  rintro e w1 ⟨rfl, hb1⟩
  obtain ⟨⟨p0, p1, p2⟩, pf⟩ := box3 HB.out hb1
  have b1 : Hid (Below B w w1) := by rw [Hid, ← HB.out]; exact next_trans' (alloc_below' _ _) hb1
  clear hb1
  rw [HB.out]
  go_wp2
  refine bodyPost_ret (v := .tuple #[.agg #[.int .i64 (k), .int .i64 (i), .string (t)], .int .i64 e0]) (by simp [results, Tryd.results27, go_sem, *]) rfl ⟨rfl, ?_⟩
  rw [HB.out]; exact set3 b1.out _ _ _
set_option maxHeartbeats 1000000 in
set_option maxRecDepth 4000 in
theorem answer_18  (k i e0 : Int) (t : ByteArray) (ao : Option Addr) (cap N : Nat) (L : List Val) (w : World) (hN : L.length = N) (hv : IsVals w ao L) (hn : N ≤ 100) (hR : ∀ v ∈ L, rightV v) (ht : TabW w) (hr : strcatR L = (⟨k, i, t⟩, e0)) :
    Calls Tryd.prog 27 #[.string ⟨#[115, 116, 114, 45, 99, 97, 116]⟩, .slice ao N cap] w fun e w' => e = .returned (.tuple #[.agg #[.int .i64 (k), .int .i64 (i), .string (t)], .int .i64 e0]) ∧ Below w.heap.size w w' := by
  obtain ⟨B, HB⟩ : ∃ B, Hid (w.heap.size = B) := ⟨_, rfl⟩
  have HV : IsVals (w.alloc (.cells #[.int .i64 0, .int .i64 0, .string ⟨#[]⟩] 26)) ao L := hv.next (alloc_below' _ _)
  have HC : Hid (∀ w1 : World, w1 = w.alloc (.cells #[.int .i64 0, .int .i64 0, .string ⟨#[]⟩] 26) → Calls Tryd.prog 36 #[.slice ao N cap] w1 fun e w' => e = .returned (.tuple #[.agg #[.int .i64 (k), .int .i64 (i), .string (t)], .int .i64 e0]) ∧ Below w1.heap.size w1 w') := by
    rintro w1 rfl
    exact jstr_any k i e0 t ao cap N L _ hN hn HV hR (tab_alloc ht) hr
  clear HV hv hN hR ht hr
  go_enter Tryd.func27, Tryd.ntmps27
  go_wp2_with fail
  refine (HC.out _ rfl).mono ?_
  rintro e w1 ⟨rfl, hb1⟩
  obtain ⟨⟨p0, p1, p2⟩, pf⟩ := box3 HB.out hb1
  have b1 : Hid (Below B w w1) := by rw [Hid, ← HB.out]; exact next_trans' (alloc_below' _ _) hb1
  clear hb1
  rw [HB.out]
  go_wp2
  refine bodyPost_ret (v := .tuple #[.agg #[.int .i64 (k), .int .i64 (i), .string (t)], .int .i64 e0]) (by simp [results, Tryd.results27, go_sem, *]) rfl ⟨rfl, ?_⟩
  rw [HB.out]; exact set3 b1.out _ _ _
set_option maxHeartbeats 1000000 in
set_option maxRecDepth 4000 in
theorem answer_12 (v : Val) (k i e0 : Int) (t : ByteArray) (ao : Option Addr) (cap N : Nat) (L : List Val) (w : World) (hN : L.length = N) (hv : IsVals w ao L) (hL : L = [v]) (hr : lengthR v = (⟨k, i, t⟩, e0)) :
    Calls Tryd.prog 27 #[.string ⟨#[108, 101, 110, 103, 116, 104]⟩, .slice ao N cap] w fun e w' => e = .returned (.tuple #[.agg #[.int .i64 (k), .int .i64 (i), .string (t)], .int .i64 e0]) ∧ Below w.heap.size w w' := by
  obtain ⟨B, HB⟩ : ∃ B, Hid (w.heap.size = B) := ⟨_, rfl⟩
  have HV : IsVals (w.alloc (.cells #[.int .i64 0, .int .i64 0, .string ⟨#[]⟩] 26)) ao L := hv.next (alloc_below' _ _)
  subst hL
  subst hN
  obtain ⟨b, o, rfl, a0, a1, a2⟩ := first_val HV
  have HC : Hid (∀ w1 : World, Calls Tryd.prog 37 #[.agg #[.int .i64 (v.k), .int .i64 (v.i), .string (v.s)]] w1 fun e w' => e = .returned (.tuple #[.agg #[.int .i64 (k), .int .i64 (i), .string (t)], .int .i64 e0]) ∧ Below w1.heap.size w1 w') := fun w1 => length_any v.k v.i v.s k i e0 t w1 hr
  clear HV hv hr
  go_enter Tryd.func27, Tryd.ntmps27
  go_wp2_with fail
  refine (HC.out _).mono ?_
  rintro e w1 ⟨rfl, hb1⟩
  obtain ⟨⟨p0, p1, p2⟩, pf⟩ := box3 HB.out hb1
  have b1 : Hid (Below B w w1) := by rw [Hid, ← HB.out]; exact next_trans' (alloc_below' _ _) hb1
  clear hb1
  rw [HB.out]
  go_wp2
  refine bodyPost_ret (v := .tuple #[.agg #[.int .i64 (k), .int .i64 (i), .string (t)], .int .i64 e0]) (by simp [results, Tryd.results27, go_sem, *]) rfl ⟨rfl, ?_⟩
  rw [HB.out]; exact set3 b1.out _ _ _
set_option maxHeartbeats 1000000 in
set_option maxRecDepth 4000 in
theorem answer_20 (v : Val) (X : ByteArray) (ao : Option Addr) (cap : Nat) (w : World) (hv : IsVals w ao [v]) (hk : v.k = 1 ∨ v.k = 2 ∨ v.k = 3) (hX : typeS v.k = X) :
    Calls Tryd.prog 27 #[.string ⟨#[116, 121, 112, 101]⟩, .slice ao 1 cap] w fun e w' => e = .returned (.tuple #[.agg #[.int .i64 (2), .int .i64 (0), .string (X)], .int .i64 0]) ∧ Below w.heap.size w w' := by
  obtain ⟨B, HB⟩ : ∃ B, Hid (w.heap.size = B) := ⟨_, rfl⟩
  obtain ⟨vk, vi, vs⟩ := v
  obtain ⟨b, o, rfl, a0, a1, a2⟩ := first_val (hv.next (alloc_below' w (.cells #[.int .i64 0, .int .i64 0, .string ⟨#[]⟩] 26)))
  have HC : Hid (∀ w1 : World, Calls Tryd.prog 38 #[.agg #[.int .i64 (vk), .int .i64 (vi), .string (vs)]] w1 fun e w' => e = .returned (.tuple #[.agg #[.int .i64 (2), .int .i64 (0), .string (X)], .int .i64 0]) ∧ Below w1.heap.size w1 w') := fun w1 => type_any vk vi vs X w1 hk hX
  clear hv hk hX
  go_enter Tryd.func27, Tryd.ntmps27
  go_wp2_with fail
  refine (HC.out _).mono ?_
  rintro e w1 ⟨rfl, hb1⟩
  obtain ⟨⟨p0, p1, p2⟩, pf⟩ := box3 HB.out hb1
  have b1 : Hid (Below B w w1) := by rw [Hid, ← HB.out]; exact next_trans' (alloc_below' _ _) hb1
  clear hb1
  rw [HB.out]
  go_wp2
  refine bodyPost_ret (v := .tuple #[.agg #[.int .i64 (2), .int .i64 (0), .string (X)], .int .i64 0]) (by simp [results, Tryd.results27, go_sem, *]) rfl ⟨rfl, ?_⟩
  rw [HB.out]; exact set3 b1.out _ _ _
/-- Numbers' names: any of them. -/
theorem ansn_any (s : ByteArray) (k i e0 : Int) (t : ByteArray) (ao : Option Addr) (cap N : Nat) (L : List Val) (w : World) (hN : L.length = N) (hv : IsVals w ao L) (hw : ∀ v ∈ L, inB v.i = true) (hm : N ≤ 1000) (hs : sumC (code s) = true ∨ cmpC (code s) = true) (hf : fitC (code s) N = true) (hr : numbersR (code s) L = (⟨k, i, t⟩, e0)) :
    Calls Tryd.prog 39 #[.string s, .slice ao N cap] w fun e w' => e = .returned (.tuple #[.agg #[.int .i64 (k), .int .i64 (i), .string (t)], .int .i64 e0]) ∧ Below w.heap.size w w' := by
  rcases hs with hs | hs
  · exact ansn_sum s k i e0 t ao cap N L w hN hv hw hm hs hf hr
  have two : loC (code s) = 2 → 2 ≤ N := fun h1 => by
    unfold fitC at hf; rw [decide_eq_true_eq] at hf; omega
  rcases code_cases s with rfl | rfl | rfl | rfl | rfl | rfl | rfl | rfl | rfl | rfl | rfl | rfl | rfl | rfl | rfl | rfl | rfl | rfl | rfl | rfl | rfl | hn
  all_goals first | exact absurd hs (by decide) | skip
  · exact ansn_3 k i e0 t ao cap N L w hN hv hm (two rfl) hr
  · exact ansn_4 k i e0 t ao cap N L w hN hv hm (two rfl) hr
  · exact ansn_5 k i e0 t ao cap N L w hN hv hm (two rfl) hr
  · exact ansn_6 k i e0 t ao cap N L w hN hv hm (two rfl) hr
  · exact ansn_7 k i e0 t ao cap N L w hN hv hm (two rfl) hr
  · exact ansn_8 k i e0 t ao cap N L w hN hv hm (two rfl) hr
  · rw [code_none hn] at hs; exact absurd hs (by decide)
set_option maxHeartbeats 1000000 in
set_option maxRecDepth 4000 in
theorem answer_num (s : ByteArray) (k i e0 : Int) (t : ByteArray) (ao : Option Addr) (cap N : Nat) (L : List Val) (w : World) (hN : L.length = N) (hv : IsVals w ao L) (hw : ∀ v ∈ L, inB v.i = true) (hm : N ≤ 1000) (hs : sumC (code s) = true ∨ cmpC (code s) = true) (hf : fitC (code s) N = true) (hr : numbersR (code s) L = (⟨k, i, t⟩, e0)) :
    Calls Tryd.prog 27 #[.string s, .slice ao N cap] w fun e w' => e = .returned (.tuple #[.agg #[.int .i64 (k), .int .i64 (i), .string (t)], .int .i64 e0]) ∧ Below w.heap.size w w' := by
  obtain ⟨B, HB⟩ : ∃ B, Hid (w.heap.size = B) := ⟨_, rfl⟩
  have HV : IsVals (w.alloc (.cells #[.int .i64 0, .int .i64 0, .string ⟨#[]⟩] 26)) ao L := hv.next (alloc_below' _ _)
  have HC : Hid (∀ w1 : World, w1 = w.alloc (.cells #[.int .i64 0, .int .i64 0, .string ⟨#[]⟩] 26) → Calls Tryd.prog 39 #[.string s, .slice ao N cap] w1 fun e w' => e = .returned (.tuple #[.agg #[.int .i64 (k), .int .i64 (i), .string (t)], .int .i64 e0]) ∧ Below w1.heap.size w1 w') := by
    rintro w1 rfl
    exact ansn_any s k i e0 t ao cap N L _ hN HV hw hm hs hf hr
  have hx : (s.toList == [101, 113]) = false ∧ (s.toList == [110, 101, 113]) = false ∧ (s.toList == [110, 111, 116]) = false ∧ (s.toList == [115, 121, 109, 45, 99, 97, 116]) = false ∧ (s.toList == [115, 116, 114, 45, 99, 97, 116]) = false ∧ (s.toList == [108, 101, 110, 103, 116, 104]) = false ∧ (s.toList == [116, 121, 112, 101]) = false := by
    refine ⟨ne_list ?_, ne_list ?_, ne_list ?_, ne_list ?_, ne_list ?_, ne_list ?_, ne_list ?_⟩ <;> (rintro rfl; rcases hs with hs | hs <;> exact absurd hs (by decide))
  obtain ⟨x1, x2, x3, x4, x5, x6, x7⟩ := hx
  clear HV hv hN hw hs hf hr hm
  go_enter Tryd.func27, Tryd.ntmps27
  go_wp2_with fail
  refine (HC.out _ rfl).mono ?_
  rintro e w1 ⟨rfl, hb1⟩
  obtain ⟨⟨p0, p1, p2⟩, pf⟩ := box3 HB.out hb1
  have b1 : Hid (Below B w w1) := by rw [Hid, ← HB.out]; exact next_trans' (alloc_below' _ _) hb1
  clear hb1
  rw [HB.out]
  go_wp2
  refine bodyPost_ret (v := .tuple #[.agg #[.int .i64 (k), .int .i64 (i), .string (t)], .int .i64 e0]) (by simp [results, Tryd.results27, go_sem, *]) rfl ⟨rfl, ?_⟩
  rw [HB.out]; exact set3 b1.out _ _ _
end Go.Proofs.YtfglmfldpmpofaaDoor
