/- The contract of package built's answerNumbers. -/
import Derived.Test.YtfglmfldpmpofaaDoorBtNof
import Derived.Test.YtfglmfldpmpofaaDoorBtReck
namespace Go.Proofs.YtfglmfldpmpofaaDoor
open Go.RowKit

theorem alloc_below' (w : World) (o : Obj) : Below w.heap.size w (w.alloc o) := (Below.refl _ _).alloc (Nat.le_refl _) _
theorem next_trans' {w0 w1 w2 : World} (h : Below w0.heap.size w0 w1) (h2 : Below w1.heap.size w1 w2) : Below w0.heap.size w0 w2 := below_next h h2 h.size
/-- A result's cells are written, in a block of the call's own. -/
theorem set3 {B : Nat} {w w1 : World} (h : Below B w w1) (x y z : Value) : Below B w (((w1.setCell ⟨B, 0, none⟩ x).setCell ⟨B, 1, none⟩ y).setCell ⟨B, 2, none⟩ z) :=
  ((h.setCell (p := ⟨B, 0, none⟩) (Nat.le_refl _) _).setCell (p := ⟨B, 1, none⟩) (Nat.le_refl _) _).setCell (p := ⟨B, 2, none⟩) (Nat.le_refl _) _
theorem ret_ve {k i e k' i' e' : Int} {s s' : ByteArray} (h : ((⟨k, i, s⟩ : Val), e) = ((⟨k', i', s'⟩ : Val), e')) : Ending.returned (.tuple #[.agg #[.int .i64 (k), .int .i64 (i), .string (s)], .int .i64 e]) = .returned (.tuple #[.agg #[.int .i64 (k'), .int .i64 (i'), .string (s')], .int .i64 e']) := by
  obtain ⟨h1, rfl⟩ := Prod.mk.inj h
  injection h1 with a b c
  subst a b c
  rfl
theorem box3 {w w1 : World} {B : Nat} (hB : w.heap.size = B) (hb : Below (w.alloc (.cells #[.int .i64 0, .int .i64 0, .string ⟨#[]⟩] 26)).heap.size (w.alloc (.cells #[.int .i64 0, .int .i64 0, .string ⟨#[]⟩] 26)) w1) :
    (w1.cell? ⟨B, 0, none⟩ = some (.int .i64 0) ∧ w1.cell? ⟨B, 1, none⟩ = some (.int .i64 0) ∧ w1.cell? ⟨B, 2, none⟩ = some (.string ⟨#[]⟩)) ∧ (∀ j, w1.frozen? ⟨B, j, none⟩ = false) := by
  subst hB
  refine ⟨⟨keep_cell hb (box0 rfl), keep_cell hb (box0 rfl), keep_cell hb (box0 rfl)⟩, fun j => ?_⟩
  rw [hb.frozen (p := ⟨w.heap.size, j, none⟩) (by simp)]
  simp
theorem box3_next {w1 w2 : World} {B : Nat} (h : (w1.cell? ⟨B, 0, none⟩ = some (.int .i64 0) ∧ w1.cell? ⟨B, 1, none⟩ = some (.int .i64 0) ∧ w1.cell? ⟨B, 2, none⟩ = some (.string ⟨#[]⟩)) ∧ (∀ j, w1.frozen? ⟨B, j, none⟩ = false)) (hb : Below w1.heap.size w1 w2) :
    (w2.cell? ⟨B, 0, none⟩ = some (.int .i64 0) ∧ w2.cell? ⟨B, 1, none⟩ = some (.int .i64 0) ∧ w2.cell? ⟨B, 2, none⟩ = some (.string ⟨#[]⟩)) ∧ (∀ j, w2.frozen? ⟨B, j, none⟩ = false) := by
  obtain ⟨⟨h0, h1, h2⟩, hf⟩ := h
  have hl := World.block_lt_of_cell? _ _ h0
  exact ⟨⟨keep_cell hb h0, keep_cell hb h1, keep_cell hb h2⟩, fun j => by rw [hb.frozen (p := ⟨B, j, none⟩) hl]; exact hf j⟩

set_option maxHeartbeats 1000000 in
set_option maxRecDepth 4000 in
theorem ansn_6 (k i e0 : Int) (t : ByteArray) (ao : Option Addr) (cap N : Nat) (L : List Val) (w : World) (hN : L.length = N) (hv : IsVals w ao L) (hm : N ≤ 1000) (h2 : 2 ≤ N) (hr : numbersR 6 L = (⟨k, i, t⟩, e0)) :
    Calls Tryd.prog 39 #[.string ⟨#[61]⟩, .slice ao N cap] w fun e w' => e = .returned (.tuple #[.agg #[.int .i64 (k), .int .i64 (i), .string (t)], .int .i64 e0]) ∧ Below w.heap.size w w' := by
  obtain ⟨B, HB⟩ : ∃ B, Hid (w.heap.size = B) := ⟨_, rfl⟩
  obtain ⟨B1, HB1⟩ : ∃ B1, Hid ((w.alloc (.cells #[.int .i64 0, .int .i64 0, .string ⟨#[]⟩] 26)).heap.size = B1) := ⟨_, rfl⟩
  have HV : Hid (IsVals (w.alloc (.cells #[.int .i64 0, .int .i64 0, .string ⟨#[]⟩] 26)) ao L) := hv.next (alloc_below' _ _)
  have HN : Hid (L.length = N) := hN
  have HX : Hid (numbersR 6 L = (⟨k, i, t⟩, e0)) := hr
  clear hv hN hr
  go_enter Tryd.func39, Tryd.ntmps39
  go_wp2_with fail
  refine (numsof_any ao cap N B1 L _ HB1.out HN.out HV.out hm).mono ?_
  rintro e w1 ⟨hp, hb1⟩
  have HC1 := box3 HB.out hb1
  have b1 : Hid (Below B w w1) := by rw [Hid, ← HB.out]; exact next_trans' (alloc_below' _ _) hb1
  clear hb1
  rcases hp with ⟨ha, rfl, hI⟩ | ⟨ha, rfl⟩
  · obtain ⟨q, HQ⟩ : ∃ q, Hid (chainB 6 (numsV L) = q) := ⟨_, rfl⟩
    have HE : Hid (((⟨2, 0, boolS q⟩ : Val), (0 : Int)) = (⟨k, i, t⟩, e0)) := by
      have h := HX.out
      unfold numbersR at h
      rw [if_pos ha, if_pos (by decide), HQ.out] at h
      exact h
    have HI : Hid (IntsW w1 (some ⟨B1, 0, none⟩) (numsV L)) := hI
    clear ha HX hI
    go_wp2_with fail
    refine (allstand_any ⟨#[61]⟩ q _ N N (numsV L) _ (by rw [numsV_len]; exact HN.out) HI.out hm h2 (by decide) HQ.out).mono ?_
    rintro e w2 ⟨rfl, hs2⟩
    have HC2 := box3_next HC1 (hs2.below _)
    have b2 : Hid (Below B w w2) := b1.out.trans (hs2.below _)
    have z1 : Hid (B ≤ w2.heap.size) := by have := b2.out.size; have := HB.out; rw [Hid]; omega
    clear hs2 HC1 b1 HI
    go_wp2_with fail
    refine (of_bool q _).mono ?_
    rintro e w3 ⟨rfl, hb3⟩
    obtain ⟨⟨p0, p1, p2⟩, pf⟩ := box3_next HC2 hb3
    have b3 : Hid (Below B w w3) := below_next b2.out hb3 z1.out
    clear hb3 b2 HC2 z1
    rw [HB.out]
    go_wp2
    refine bodyPost_ret (v := .tuple #[.agg #[.int .i64 (2), .int .i64 (0), .string (boolS q)], .int .i64 0]) (by simp [results, Tryd.results39, go_sem, *]) rfl ⟨ret_ve HE.out, ?_⟩
    rw [HB.out]; exact set3 b3.out _ _ _
  · have HE : Hid (((⟨0, 0, ⟨#[]⟩⟩ : Val), (8 : Int)) = (⟨k, i, t⟩, e0)) := by
      have h := HX.out
      unfold numbersR at h
      rw [if_neg (by rw [ha]; decide)] at h
      exact h
    obtain ⟨⟨p0, p1, p2⟩, pf⟩ := HC1
    clear ha HX
    rw [HB.out]
    go_wp2
    refine bodyPost_ret (v := .tuple #[.agg #[.int .i64 (0), .int .i64 (0), .string (⟨#[]⟩)], .int .i64 8]) (by simp [results, Tryd.results39, go_sem, *]) rfl ⟨ret_ve HE.out, ?_⟩
    rw [HB.out]; exact set3 b1.out _ _ _

set_option maxHeartbeats 1000000 in
set_option maxRecDepth 4000 in
theorem ansn_5 (k i e0 : Int) (t : ByteArray) (ao : Option Addr) (cap N : Nat) (L : List Val) (w : World) (hN : L.length = N) (hv : IsVals w ao L) (hm : N ≤ 1000) (h2 : 2 ≤ N) (hr : numbersR 5 L = (⟨k, i, t⟩, e0)) :
    Calls Tryd.prog 39 #[.string ⟨#[60, 62]⟩, .slice ao N cap] w fun e w' => e = .returned (.tuple #[.agg #[.int .i64 (k), .int .i64 (i), .string (t)], .int .i64 e0]) ∧ Below w.heap.size w w' := by
  obtain ⟨B, HB⟩ : ∃ B, Hid (w.heap.size = B) := ⟨_, rfl⟩
  obtain ⟨B1, HB1⟩ : ∃ B1, Hid ((w.alloc (.cells #[.int .i64 0, .int .i64 0, .string ⟨#[]⟩] 26)).heap.size = B1) := ⟨_, rfl⟩
  have HV : Hid (IsVals (w.alloc (.cells #[.int .i64 0, .int .i64 0, .string ⟨#[]⟩] 26)) ao L) := hv.next (alloc_below' _ _)
  have HN : Hid (L.length = N) := hN
  have HX : Hid (numbersR 5 L = (⟨k, i, t⟩, e0)) := hr
  clear hv hN hr
  go_enter Tryd.func39, Tryd.ntmps39
  go_wp2_with fail
  refine (numsof_any ao cap N B1 L _ HB1.out HN.out HV.out hm).mono ?_
  rintro e w1 ⟨hp, hb1⟩
  have HC1 := box3 HB.out hb1
  have b1 : Hid (Below B w w1) := by rw [Hid, ← HB.out]; exact next_trans' (alloc_below' _ _) hb1
  clear hb1
  rcases hp with ⟨ha, rfl, hI⟩ | ⟨ha, rfl⟩
  · obtain ⟨q, HQ⟩ : ∃ q, Hid (chainB 5 (numsV L) = q) := ⟨_, rfl⟩
    have HE : Hid (((⟨2, 0, boolS q⟩ : Val), (0 : Int)) = (⟨k, i, t⟩, e0)) := by
      have h := HX.out
      unfold numbersR at h
      rw [if_pos ha, if_pos (by decide), HQ.out] at h
      exact h
    have HI : Hid (IntsW w1 (some ⟨B1, 0, none⟩) (numsV L)) := hI
    clear ha HX hI
    go_wp2_with fail
    refine (allstand_any ⟨#[60, 62]⟩ q _ N N (numsV L) _ (by rw [numsV_len]; exact HN.out) HI.out hm h2 (by decide) HQ.out).mono ?_
    rintro e w2 ⟨rfl, hs2⟩
    have HC2 := box3_next HC1 (hs2.below _)
    have b2 : Hid (Below B w w2) := b1.out.trans (hs2.below _)
    have z1 : Hid (B ≤ w2.heap.size) := by have := b2.out.size; have := HB.out; rw [Hid]; omega
    clear hs2 HC1 b1 HI
    go_wp2_with fail
    refine (of_bool q _).mono ?_
    rintro e w3 ⟨rfl, hb3⟩
    obtain ⟨⟨p0, p1, p2⟩, pf⟩ := box3_next HC2 hb3
    have b3 : Hid (Below B w w3) := below_next b2.out hb3 z1.out
    clear hb3 b2 HC2 z1
    rw [HB.out]
    go_wp2
    refine bodyPost_ret (v := .tuple #[.agg #[.int .i64 (2), .int .i64 (0), .string (boolS q)], .int .i64 0]) (by simp [results, Tryd.results39, go_sem, *]) rfl ⟨ret_ve HE.out, ?_⟩
    rw [HB.out]; exact set3 b3.out _ _ _
  · have HE : Hid (((⟨0, 0, ⟨#[]⟩⟩ : Val), (8 : Int)) = (⟨k, i, t⟩, e0)) := by
      have h := HX.out
      unfold numbersR at h
      rw [if_neg (by rw [ha]; decide)] at h
      exact h
    obtain ⟨⟨p0, p1, p2⟩, pf⟩ := HC1
    clear ha HX
    rw [HB.out]
    go_wp2
    refine bodyPost_ret (v := .tuple #[.agg #[.int .i64 (0), .int .i64 (0), .string (⟨#[]⟩)], .int .i64 8]) (by simp [results, Tryd.results39, go_sem, *]) rfl ⟨ret_ve HE.out, ?_⟩
    rw [HB.out]; exact set3 b1.out _ _ _

set_option maxHeartbeats 1000000 in
set_option maxRecDepth 4000 in
theorem ansn_3 (k i e0 : Int) (t : ByteArray) (ao : Option Addr) (cap N : Nat) (L : List Val) (w : World) (hN : L.length = N) (hv : IsVals w ao L) (hm : N ≤ 1000) (h2 : 2 ≤ N) (hr : numbersR 3 L = (⟨k, i, t⟩, e0)) :
    Calls Tryd.prog 39 #[.string ⟨#[60]⟩, .slice ao N cap] w fun e w' => e = .returned (.tuple #[.agg #[.int .i64 (k), .int .i64 (i), .string (t)], .int .i64 e0]) ∧ Below w.heap.size w w' := by
  obtain ⟨B, HB⟩ : ∃ B, Hid (w.heap.size = B) := ⟨_, rfl⟩
  obtain ⟨B1, HB1⟩ : ∃ B1, Hid ((w.alloc (.cells #[.int .i64 0, .int .i64 0, .string ⟨#[]⟩] 26)).heap.size = B1) := ⟨_, rfl⟩
  have HV : Hid (IsVals (w.alloc (.cells #[.int .i64 0, .int .i64 0, .string ⟨#[]⟩] 26)) ao L) := hv.next (alloc_below' _ _)
  have HN : Hid (L.length = N) := hN
  have HX : Hid (numbersR 3 L = (⟨k, i, t⟩, e0)) := hr
  clear hv hN hr
  go_enter Tryd.func39, Tryd.ntmps39
  go_wp2_with fail
  refine (numsof_any ao cap N B1 L _ HB1.out HN.out HV.out hm).mono ?_
  rintro e w1 ⟨hp, hb1⟩
  have HC1 := box3 HB.out hb1
  have b1 : Hid (Below B w w1) := by rw [Hid, ← HB.out]; exact next_trans' (alloc_below' _ _) hb1
  clear hb1
  rcases hp with ⟨ha, rfl, hI⟩ | ⟨ha, rfl⟩
  · obtain ⟨q, HQ⟩ : ∃ q, Hid (chainB 3 (numsV L) = q) := ⟨_, rfl⟩
    have HE : Hid (((⟨2, 0, boolS q⟩ : Val), (0 : Int)) = (⟨k, i, t⟩, e0)) := by
      have h := HX.out
      unfold numbersR at h
      rw [if_pos ha, if_pos (by decide), HQ.out] at h
      exact h
    have HI : Hid (IntsW w1 (some ⟨B1, 0, none⟩) (numsV L)) := hI
    clear ha HX hI
    go_wp2_with fail
    refine (allstand_any ⟨#[60]⟩ q _ N N (numsV L) _ (by rw [numsV_len]; exact HN.out) HI.out hm h2 (by decide) HQ.out).mono ?_
    rintro e w2 ⟨rfl, hs2⟩
    have HC2 := box3_next HC1 (hs2.below _)
    have b2 : Hid (Below B w w2) := b1.out.trans (hs2.below _)
    have z1 : Hid (B ≤ w2.heap.size) := by have := b2.out.size; have := HB.out; rw [Hid]; omega
    clear hs2 HC1 b1 HI
    go_wp2_with fail
    refine (of_bool q _).mono ?_
    rintro e w3 ⟨rfl, hb3⟩
    obtain ⟨⟨p0, p1, p2⟩, pf⟩ := box3_next HC2 hb3
    have b3 : Hid (Below B w w3) := below_next b2.out hb3 z1.out
    clear hb3 b2 HC2 z1
    rw [HB.out]
    go_wp2
    refine bodyPost_ret (v := .tuple #[.agg #[.int .i64 (2), .int .i64 (0), .string (boolS q)], .int .i64 0]) (by simp [results, Tryd.results39, go_sem, *]) rfl ⟨ret_ve HE.out, ?_⟩
    rw [HB.out]; exact set3 b3.out _ _ _
  · have HE : Hid (((⟨0, 0, ⟨#[]⟩⟩ : Val), (8 : Int)) = (⟨k, i, t⟩, e0)) := by
      have h := HX.out
      unfold numbersR at h
      rw [if_neg (by rw [ha]; decide)] at h
      exact h
    obtain ⟨⟨p0, p1, p2⟩, pf⟩ := HC1
    clear ha HX
    rw [HB.out]
    go_wp2
    refine bodyPost_ret (v := .tuple #[.agg #[.int .i64 (0), .int .i64 (0), .string (⟨#[]⟩)], .int .i64 8]) (by simp [results, Tryd.results39, go_sem, *]) rfl ⟨ret_ve HE.out, ?_⟩
    rw [HB.out]; exact set3 b1.out _ _ _

set_option maxHeartbeats 1000000 in
set_option maxRecDepth 4000 in
theorem ansn_4 (k i e0 : Int) (t : ByteArray) (ao : Option Addr) (cap N : Nat) (L : List Val) (w : World) (hN : L.length = N) (hv : IsVals w ao L) (hm : N ≤ 1000) (h2 : 2 ≤ N) (hr : numbersR 4 L = (⟨k, i, t⟩, e0)) :
    Calls Tryd.prog 39 #[.string ⟨#[60, 61]⟩, .slice ao N cap] w fun e w' => e = .returned (.tuple #[.agg #[.int .i64 (k), .int .i64 (i), .string (t)], .int .i64 e0]) ∧ Below w.heap.size w w' := by
  obtain ⟨B, HB⟩ : ∃ B, Hid (w.heap.size = B) := ⟨_, rfl⟩
  obtain ⟨B1, HB1⟩ : ∃ B1, Hid ((w.alloc (.cells #[.int .i64 0, .int .i64 0, .string ⟨#[]⟩] 26)).heap.size = B1) := ⟨_, rfl⟩
  have HV : Hid (IsVals (w.alloc (.cells #[.int .i64 0, .int .i64 0, .string ⟨#[]⟩] 26)) ao L) := hv.next (alloc_below' _ _)
  have HN : Hid (L.length = N) := hN
  have HX : Hid (numbersR 4 L = (⟨k, i, t⟩, e0)) := hr
  clear hv hN hr
  go_enter Tryd.func39, Tryd.ntmps39
  go_wp2_with fail
  refine (numsof_any ao cap N B1 L _ HB1.out HN.out HV.out hm).mono ?_
  rintro e w1 ⟨hp, hb1⟩
  have HC1 := box3 HB.out hb1
  have b1 : Hid (Below B w w1) := by rw [Hid, ← HB.out]; exact next_trans' (alloc_below' _ _) hb1
  clear hb1
  rcases hp with ⟨ha, rfl, hI⟩ | ⟨ha, rfl⟩
  · obtain ⟨q, HQ⟩ : ∃ q, Hid (chainB 4 (numsV L) = q) := ⟨_, rfl⟩
    have HE : Hid (((⟨2, 0, boolS q⟩ : Val), (0 : Int)) = (⟨k, i, t⟩, e0)) := by
      have h := HX.out
      unfold numbersR at h
      rw [if_pos ha, if_pos (by decide), HQ.out] at h
      exact h
    have HI : Hid (IntsW w1 (some ⟨B1, 0, none⟩) (numsV L)) := hI
    clear ha HX hI
    go_wp2_with fail
    refine (allstand_any ⟨#[60, 61]⟩ q _ N N (numsV L) _ (by rw [numsV_len]; exact HN.out) HI.out hm h2 (by decide) HQ.out).mono ?_
    rintro e w2 ⟨rfl, hs2⟩
    have HC2 := box3_next HC1 (hs2.below _)
    have b2 : Hid (Below B w w2) := b1.out.trans (hs2.below _)
    have z1 : Hid (B ≤ w2.heap.size) := by have := b2.out.size; have := HB.out; rw [Hid]; omega
    clear hs2 HC1 b1 HI
    go_wp2_with fail
    refine (of_bool q _).mono ?_
    rintro e w3 ⟨rfl, hb3⟩
    obtain ⟨⟨p0, p1, p2⟩, pf⟩ := box3_next HC2 hb3
    have b3 : Hid (Below B w w3) := below_next b2.out hb3 z1.out
    clear hb3 b2 HC2 z1
    rw [HB.out]
    go_wp2
    refine bodyPost_ret (v := .tuple #[.agg #[.int .i64 (2), .int .i64 (0), .string (boolS q)], .int .i64 0]) (by simp [results, Tryd.results39, go_sem, *]) rfl ⟨ret_ve HE.out, ?_⟩
    rw [HB.out]; exact set3 b3.out _ _ _
  · have HE : Hid (((⟨0, 0, ⟨#[]⟩⟩ : Val), (8 : Int)) = (⟨k, i, t⟩, e0)) := by
      have h := HX.out
      unfold numbersR at h
      rw [if_neg (by rw [ha]; decide)] at h
      exact h
    obtain ⟨⟨p0, p1, p2⟩, pf⟩ := HC1
    clear ha HX
    rw [HB.out]
    go_wp2
    refine bodyPost_ret (v := .tuple #[.agg #[.int .i64 (0), .int .i64 (0), .string (⟨#[]⟩)], .int .i64 8]) (by simp [results, Tryd.results39, go_sem, *]) rfl ⟨ret_ve HE.out, ?_⟩
    rw [HB.out]; exact set3 b1.out _ _ _

set_option maxHeartbeats 1000000 in
set_option maxRecDepth 4000 in
theorem ansn_7 (k i e0 : Int) (t : ByteArray) (ao : Option Addr) (cap N : Nat) (L : List Val) (w : World) (hN : L.length = N) (hv : IsVals w ao L) (hm : N ≤ 1000) (h2 : 2 ≤ N) (hr : numbersR 7 L = (⟨k, i, t⟩, e0)) :
    Calls Tryd.prog 39 #[.string ⟨#[62]⟩, .slice ao N cap] w fun e w' => e = .returned (.tuple #[.agg #[.int .i64 (k), .int .i64 (i), .string (t)], .int .i64 e0]) ∧ Below w.heap.size w w' := by
  obtain ⟨B, HB⟩ : ∃ B, Hid (w.heap.size = B) := ⟨_, rfl⟩
  obtain ⟨B1, HB1⟩ : ∃ B1, Hid ((w.alloc (.cells #[.int .i64 0, .int .i64 0, .string ⟨#[]⟩] 26)).heap.size = B1) := ⟨_, rfl⟩
  have HV : Hid (IsVals (w.alloc (.cells #[.int .i64 0, .int .i64 0, .string ⟨#[]⟩] 26)) ao L) := hv.next (alloc_below' _ _)
  have HN : Hid (L.length = N) := hN
  have HX : Hid (numbersR 7 L = (⟨k, i, t⟩, e0)) := hr
  clear hv hN hr
  go_enter Tryd.func39, Tryd.ntmps39
  go_wp2_with fail
  refine (numsof_any ao cap N B1 L _ HB1.out HN.out HV.out hm).mono ?_
  rintro e w1 ⟨hp, hb1⟩
  have HC1 := box3 HB.out hb1
  have b1 : Hid (Below B w w1) := by rw [Hid, ← HB.out]; exact next_trans' (alloc_below' _ _) hb1
  clear hb1
  rcases hp with ⟨ha, rfl, hI⟩ | ⟨ha, rfl⟩
  · obtain ⟨q, HQ⟩ : ∃ q, Hid (chainB 7 (numsV L) = q) := ⟨_, rfl⟩
    have HE : Hid (((⟨2, 0, boolS q⟩ : Val), (0 : Int)) = (⟨k, i, t⟩, e0)) := by
      have h := HX.out
      unfold numbersR at h
      rw [if_pos ha, if_pos (by decide), HQ.out] at h
      exact h
    have HI : Hid (IntsW w1 (some ⟨B1, 0, none⟩) (numsV L)) := hI
    clear ha HX hI
    go_wp2_with fail
    refine (allstand_any ⟨#[62]⟩ q _ N N (numsV L) _ (by rw [numsV_len]; exact HN.out) HI.out hm h2 (by decide) HQ.out).mono ?_
    rintro e w2 ⟨rfl, hs2⟩
    have HC2 := box3_next HC1 (hs2.below _)
    have b2 : Hid (Below B w w2) := b1.out.trans (hs2.below _)
    have z1 : Hid (B ≤ w2.heap.size) := by have := b2.out.size; have := HB.out; rw [Hid]; omega
    clear hs2 HC1 b1 HI
    go_wp2_with fail
    refine (of_bool q _).mono ?_
    rintro e w3 ⟨rfl, hb3⟩
    obtain ⟨⟨p0, p1, p2⟩, pf⟩ := box3_next HC2 hb3
    have b3 : Hid (Below B w w3) := below_next b2.out hb3 z1.out
    clear hb3 b2 HC2 z1
    rw [HB.out]
    go_wp2
    refine bodyPost_ret (v := .tuple #[.agg #[.int .i64 (2), .int .i64 (0), .string (boolS q)], .int .i64 0]) (by simp [results, Tryd.results39, go_sem, *]) rfl ⟨ret_ve HE.out, ?_⟩
    rw [HB.out]; exact set3 b3.out _ _ _
  · have HE : Hid (((⟨0, 0, ⟨#[]⟩⟩ : Val), (8 : Int)) = (⟨k, i, t⟩, e0)) := by
      have h := HX.out
      unfold numbersR at h
      rw [if_neg (by rw [ha]; decide)] at h
      exact h
    obtain ⟨⟨p0, p1, p2⟩, pf⟩ := HC1
    clear ha HX
    rw [HB.out]
    go_wp2
    refine bodyPost_ret (v := .tuple #[.agg #[.int .i64 (0), .int .i64 (0), .string (⟨#[]⟩)], .int .i64 8]) (by simp [results, Tryd.results39, go_sem, *]) rfl ⟨ret_ve HE.out, ?_⟩
    rw [HB.out]; exact set3 b1.out _ _ _

set_option maxHeartbeats 1000000 in
set_option maxRecDepth 4000 in
theorem ansn_8 (k i e0 : Int) (t : ByteArray) (ao : Option Addr) (cap N : Nat) (L : List Val) (w : World) (hN : L.length = N) (hv : IsVals w ao L) (hm : N ≤ 1000) (h2 : 2 ≤ N) (hr : numbersR 8 L = (⟨k, i, t⟩, e0)) :
    Calls Tryd.prog 39 #[.string ⟨#[62, 61]⟩, .slice ao N cap] w fun e w' => e = .returned (.tuple #[.agg #[.int .i64 (k), .int .i64 (i), .string (t)], .int .i64 e0]) ∧ Below w.heap.size w w' := by
  obtain ⟨B, HB⟩ : ∃ B, Hid (w.heap.size = B) := ⟨_, rfl⟩
  obtain ⟨B1, HB1⟩ : ∃ B1, Hid ((w.alloc (.cells #[.int .i64 0, .int .i64 0, .string ⟨#[]⟩] 26)).heap.size = B1) := ⟨_, rfl⟩
  have HV : Hid (IsVals (w.alloc (.cells #[.int .i64 0, .int .i64 0, .string ⟨#[]⟩] 26)) ao L) := hv.next (alloc_below' _ _)
  have HN : Hid (L.length = N) := hN
  have HX : Hid (numbersR 8 L = (⟨k, i, t⟩, e0)) := hr
  clear hv hN hr
  go_enter Tryd.func39, Tryd.ntmps39
  go_wp2_with fail
  refine (numsof_any ao cap N B1 L _ HB1.out HN.out HV.out hm).mono ?_
  rintro e w1 ⟨hp, hb1⟩
  have HC1 := box3 HB.out hb1
  have b1 : Hid (Below B w w1) := by rw [Hid, ← HB.out]; exact next_trans' (alloc_below' _ _) hb1
  clear hb1
  rcases hp with ⟨ha, rfl, hI⟩ | ⟨ha, rfl⟩
  · obtain ⟨q, HQ⟩ : ∃ q, Hid (chainB 8 (numsV L) = q) := ⟨_, rfl⟩
    have HE : Hid (((⟨2, 0, boolS q⟩ : Val), (0 : Int)) = (⟨k, i, t⟩, e0)) := by
      have h := HX.out
      unfold numbersR at h
      rw [if_pos ha, if_pos (by decide), HQ.out] at h
      exact h
    have HI : Hid (IntsW w1 (some ⟨B1, 0, none⟩) (numsV L)) := hI
    clear ha HX hI
    go_wp2_with fail
    refine (allstand_any ⟨#[62, 61]⟩ q _ N N (numsV L) _ (by rw [numsV_len]; exact HN.out) HI.out hm h2 (by decide) HQ.out).mono ?_
    rintro e w2 ⟨rfl, hs2⟩
    have HC2 := box3_next HC1 (hs2.below _)
    have b2 : Hid (Below B w w2) := b1.out.trans (hs2.below _)
    have z1 : Hid (B ≤ w2.heap.size) := by have := b2.out.size; have := HB.out; rw [Hid]; omega
    clear hs2 HC1 b1 HI
    go_wp2_with fail
    refine (of_bool q _).mono ?_
    rintro e w3 ⟨rfl, hb3⟩
    obtain ⟨⟨p0, p1, p2⟩, pf⟩ := box3_next HC2 hb3
    have b3 : Hid (Below B w w3) := below_next b2.out hb3 z1.out
    clear hb3 b2 HC2 z1
    rw [HB.out]
    go_wp2
    refine bodyPost_ret (v := .tuple #[.agg #[.int .i64 (2), .int .i64 (0), .string (boolS q)], .int .i64 0]) (by simp [results, Tryd.results39, go_sem, *]) rfl ⟨ret_ve HE.out, ?_⟩
    rw [HB.out]; exact set3 b3.out _ _ _
  · have HE : Hid (((⟨0, 0, ⟨#[]⟩⟩ : Val), (8 : Int)) = (⟨k, i, t⟩, e0)) := by
      have h := HX.out
      unfold numbersR at h
      rw [if_neg (by rw [ha]; decide)] at h
      exact h
    obtain ⟨⟨p0, p1, p2⟩, pf⟩ := HC1
    clear ha HX
    rw [HB.out]
    go_wp2
    refine bodyPost_ret (v := .tuple #[.agg #[.int .i64 (0), .int .i64 (0), .string (⟨#[]⟩)], .int .i64 8]) (by simp [results, Tryd.results39, go_sem, *]) rfl ⟨ret_ve HE.out, ?_⟩
    rw [HB.out]; exact set3 b1.out _ _ _

set_option maxHeartbeats 1000000 in
set_option maxRecDepth 4000 in
theorem ansn_sum (s : ByteArray) (k i e0 : Int) (t : ByteArray) (ao : Option Addr) (cap N : Nat) (L : List Val) (w : World) (hN : L.length = N) (hv : IsVals w ao L) (hw : ∀ v ∈ L, inB v.i = true) (hm : N ≤ 1000) (hs : sumC (code s) = true) (hf : fitC (code s) N = true) (hr : numbersR (code s) L = (⟨k, i, t⟩, e0)) :
    Calls Tryd.prog 39 #[.string s, .slice ao N cap] w fun e w' => e = .returned (.tuple #[.agg #[.int .i64 (k), .int .i64 (i), .string (t)], .int .i64 e0]) ∧ Below w.heap.size w w' := by
  obtain ⟨B, HB⟩ : ∃ B, Hid (w.heap.size = B) := ⟨_, rfl⟩
  obtain ⟨B1, HB1⟩ : ∃ B1, Hid ((w.alloc (.cells #[.int .i64 0, .int .i64 0, .string ⟨#[]⟩] 26)).heap.size = B1) := ⟨_, rfl⟩
  have HV : Hid (IsVals (w.alloc (.cells #[.int .i64 0, .int .i64 0, .string ⟨#[]⟩] 26)) ao L) := hv.next (alloc_below' _ _)
  have HN : Hid (L.length = N) := hN
  have HX : Hid (numbersR (code s) L = (⟨k, i, t⟩, e0)) := hr
  clear hv hN hr
  have hx : (s.toList == [61]) = false ∧ (s.toList == [60, 62]) = false ∧ (s.toList == [60]) = false ∧ (s.toList == [60, 61]) = false ∧ (s.toList == [62]) = false ∧ (s.toList == [62, 61]) = false := by
    refine ⟨ne_list ?_, ne_list ?_, ne_list ?_, ne_list ?_, ne_list ?_, ne_list ?_⟩ <;> (rintro rfl; exact absurd hs (by decide))
  obtain ⟨x1, x2, x3, x4, x5, x6⟩ := hx
  have HS : Hid (sumC (code s) = true) := hs
  have HF : Hid (fitC (code s) N = true) := hf
  have HW : Hid (∀ x ∈ numsV L, inB x = true) := by
    intro x hx
    unfold numsV at hx
    obtain ⟨v, h1, rfl⟩ := List.mem_map.1 hx
    exact hw v h1
  have hnc : Hid (cmpC (code s) = false) := by
    rw [Hid]
    unfold cmpC; unfold sumC at hs
    rw [decide_eq_true_eq] at hs
    exact decide_eq_false (by omega)
  clear hs hf hw
  go_enter Tryd.func39, Tryd.ntmps39
  go_wp2_with fail
  refine (numsof_any ao cap N B1 L _ HB1.out HN.out HV.out hm).mono ?_
  rintro e w1 ⟨hp, hb1⟩
  have HC1 := box3 HB.out hb1
  have b1 : Hid (Below B w w1) := by rw [Hid, ← HB.out]; exact next_trans' (alloc_below' _ _) hb1
  clear hb1
  rcases hp with ⟨ha, rfl, hI⟩ | ⟨ha, rfl⟩
  · obtain ⟨q, q0, HQ⟩ : ∃ q q0, Hid (numR (code s) (numsV L) = (q, q0)) := ⟨_, _, rfl⟩
    have HE0 := HX.out
    unfold numbersR at HE0
    rw [if_pos ha, if_neg (by rw [hnc.out]; decide), HQ.out] at HE0
    have HI : Hid (IntsW w1 (some ⟨B1, 0, none⟩) (numsV L)) := hI
    clear ha HX hI
    by_cases hq : q0 = 0
    · subst hq
      have HE : Hid (((⟨1, q, ⟨#[]⟩⟩ : Val), (0 : Int)) = (⟨k, i, t⟩, e0)) := by rw [if_pos rfl] at HE0; exact HE0
      clear HE0
      go_wp2_with fail
      refine (reckon_any s q 0 _ N N (numsV L) _ HS.out HF.out (by rw [numsV_len]; exact HN.out) (Nat.le_refl _) HI.out HW.out hm HQ.out).mono ?_
      rintro e w2 ⟨rfl, hs2⟩
      have HC2 := box3_next HC1 (hs2.below _)
      have b2 : Hid (Below B w w2) := b1.out.trans (hs2.below _)
      have z1 : Hid (B ≤ w2.heap.size) := by have := b2.out.size; have := HB.out; rw [Hid]; omega
      clear hs2 HC1 b1 HI
      go_wp2_with fail
      refine (of_int q _).mono ?_
      rintro e w3 ⟨rfl, hb3⟩
      obtain ⟨⟨p0, p1, p2⟩, pf⟩ := box3_next HC2 hb3
      have b3 : Hid (Below B w w3) := below_next b2.out hb3 z1.out
      clear hb3 b2 HC2 z1
      rw [HB.out]
      go_wp2
      refine bodyPost_ret (v := .tuple #[.agg #[.int .i64 (1), .int .i64 (q), .string (⟨#[]⟩)], .int .i64 0]) (by simp [results, Tryd.results39, go_sem, *]) rfl ⟨ret_ve HE.out, ?_⟩
      rw [HB.out]; exact set3 b3.out _ _ _
    · have HE : Hid (((⟨0, 0, ⟨#[]⟩⟩ : Val), q0) = (⟨k, i, t⟩, e0)) := by rw [if_neg hq] at HE0; exact HE0
      have d0 : (q0 != 0) = true := by simpa using hq
      clear HE0 hq
      go_wp2_with fail
      refine (reckon_any s q q0 _ N N (numsV L) _ HS.out HF.out (by rw [numsV_len]; exact HN.out) (Nat.le_refl _) HI.out HW.out hm HQ.out).mono ?_
      rintro e w2 ⟨rfl, hs2⟩
      obtain ⟨⟨p0, p1, p2⟩, pf⟩ := box3_next HC1 (hs2.below _)
      have b2 : Hid (Below B w w2) := b1.out.trans (hs2.below _)
      clear hs2 HC1 b1 HI
      rw [HB.out]
      go_wp2
      refine bodyPost_ret (v := .tuple #[.agg #[.int .i64 (0), .int .i64 (0), .string (⟨#[]⟩)], .int .i64 q0]) (by simp [results, Tryd.results39, go_sem, *]) rfl ⟨ret_ve HE.out, ?_⟩
      rw [HB.out]; exact set3 b2.out _ _ _
  · have HE : Hid (((⟨0, 0, ⟨#[]⟩⟩ : Val), (8 : Int)) = (⟨k, i, t⟩, e0)) := by
      have h := HX.out
      unfold numbersR at h
      rw [if_neg (by rw [ha]; decide)] at h
      exact h
    obtain ⟨⟨p0, p1, p2⟩, pf⟩ := HC1
    clear ha HX
    rw [HB.out]
    go_wp2
    refine bodyPost_ret (v := .tuple #[.agg #[.int .i64 (0), .int .i64 (0), .string (⟨#[]⟩)], .int .i64 8]) (by simp [results, Tryd.results39, go_sem, *]) rfl ⟨ret_ve HE.out, ?_⟩
    rw [HB.out]; exact set3 b1.out _ _ _

end Go.Proofs.YtfglmfldpmpofaaDoor
