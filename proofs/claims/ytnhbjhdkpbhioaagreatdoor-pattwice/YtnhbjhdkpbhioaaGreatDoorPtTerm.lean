/- Package pat: a slot's term. -/
import Derived.Test.YtnhbjhdkpbhioaaGreatDoorPtSmall
import Derived.Deep.RegionHeld3
namespace Go.Proofs.YtnhbjhdkpbhioaaGreatDoor
open Go.RowKit

def PlR (Q : Option Ts) (e : Ending) : Prop := ∃ t : Ts, e = .returned (.tuple #[tsV t, .bool Q.isSome]) ∧ ∀ t', Q = some t' → t = t'
theorem PlR.yes {Q : Option Ts} {t : Ts} (h : Q = some t) : PlR Q (.returned (.tuple #[tsV t, .bool true])) := by subst h; exact ⟨t, rfl, fun t' h => by cases h; rfl⟩
theorem PlR.no {Q : Option Ts} (t : Ts) (h : Q = none) : PlR Q (.returned (.tuple #[tsV t, .bool false])) := by subst h; exact ⟨t, rfl, fun t' h => by cases h⟩
theorem isE_yes {Y : ByteArray} (h : Y = noS) : Y.toList.isEmpty = true := by subst h; rw [Lib.toList_data]; rfl
theorem isE_no {Y : ByteArray} (h : Y ≠ noS) : Y.toList.isEmpty = false := by
  cases e : Y.toList with
  | nil =>
    exact absurd (ByteArray.ext (by rw [Lib.toList_data] at e; rw [← Array.toArray_toList (xs := Y.data), e]; rfl)) h
  | cons a r => rfl

set_option maxHeartbeats 4000000 in
set_option maxRecDepth 8000 in
theorem pplain_any (x : Nd) (ao : Option Addr) (cap : Nat) (w : World) :
    Calls Tryz.prog 116 #[ndV x ao cap] w fun e w' => PlR (plainN x) e ∧ Below w.heap.size w w' := by
  obtain ⟨Q, HQ⟩ : ∃ Q, Hid (plainN x = Q) := ⟨_, rfl⟩
  obtain ⟨V, HV⟩ : ∃ V, Hid (valN x = V) := ⟨_, rfl⟩
  have HVal : Hid (∀ w, Calls Tryz.prog 136 #[ndV x ao cap] w fun e w' => e = .returned (.tuple #[.agg #[.int .i64 ((valN x).1), .int .i64 ((valN x).2.1), .string (baL (valN x).2.2.1)], .bool (valN x).2.2.2]) ∧ Below w.heap.size w w') := fun w => value_any5 x ao cap w
  obtain ⟨K, A, I, Y, M, H, Hx⟩ := nd_open x ao cap
  rw [H.out, HV.out] at HVal
  rw [H.out, HQ.out]
  obtain ⟨vk, vi, vl, vb⟩ := V
  simp only at HVal
  obtain ⟨S, HS⟩ : ∃ S, Hid (baL vl = S) := ⟨_, rfl⟩
  rw [HS.out] at HVal
  obtain ⟨W, HWe⟩ : ∃ W, Hid ((w.alloc (.cells #[.int .i64 K, .int .i64 A, .int .i64 I, .string Y, .slice ao M cap] 43)).alloc (.cells #[.int .i64 0, .bool false, .string ⟨#[]⟩, .int .i64 0, .int .i64 0, .string ⟨#[]⟩] 88) = W) := ⟨_, rfl⟩
  have HB : Hid (Below w.heap.size w W) := by rw [← HWe.out]; exact next_trans (alloc_below _ _) (alloc_below _ _)
  have HX : Hid (Bx W w.heap.size #[.int .i64 K, .int .i64 A, .int .i64 I, .string Y, .slice ao M cap]) := by rw [← HWe.out]; exact (Bx.made _ _ _).alloc _
  have HR : Hid (Bx W (w.heap.size + 1) #[.int .i64 0, .bool false, .string ⟨#[]⟩, .int .i64 0, .int .i64 0, .string ⟨#[]⟩]) := Bx.made' HWe.out (by simp)
  have x0 : W.cell? ⟨w.heap.size, 0, none⟩ = some (.int .i64 K) := HX.out.cell 0
  have x1 : W.cell? ⟨w.heap.size, 1, none⟩ = some (.int .i64 A) := HX.out.cell 1
  have x2 : W.cell? ⟨w.heap.size, 2, none⟩ = some (.int .i64 I) := HX.out.cell 2
  have x3 : W.cell? ⟨w.heap.size, 3, none⟩ = some (.string Y) := HX.out.cell 3
  have x4 : W.cell? ⟨w.heap.size, 4, none⟩ = some (.slice ao M cap) := HX.out.cell 4
  have hl : w.heap.size + 1 < W.heap.size := HR.out.lt
  by_cases hk : K = 6
  · have r0 : W.cell? ⟨w.heap.size + 1, 0, none⟩ = some (.int .i64 0) := HR.out.cell 0
    have r1 : W.cell? ⟨w.heap.size + 1, 1, none⟩ = some (.bool false) := HR.out.cell 1
    have r2 : W.cell? ⟨w.heap.size + 1, 2, none⟩ = some (.string ⟨#[]⟩) := HR.out.cell 2
    have r3 : W.cell? ⟨w.heap.size + 1, 3, none⟩ = some (.int .i64 0) := HR.out.cell 3
    have r4 : W.cell? ⟨w.heap.size + 1, 4, none⟩ = some (.int .i64 0) := HR.out.cell 4
    have r5 : W.cell? ⟨w.heap.size + 1, 5, none⟩ = some (.string ⟨#[]⟩) := HR.out.cell 5
    have rf := HR.out.froz
    have hxk := Hx.out.1
    have hxs := Hx.out.2.2.2.1
    subst hk
    have HBe := fun v0 v1 v2 v3 v4 v5 => (bel6 (b := w.heap.size + 1) HB.out (by omega) v0 v1 v2 v3 v4 v5).drew
    by_cases hy : Y = noS
    · have hd := isE_yes hy
      have HQn : Hid (Q = none) := by
        rw [Hid, ← HQ.out]; unfold plainN
        rw [if_pos hxk, if_pos]
        rw [hy] at hxs
        rw [← baL_list x.s, hxs]; rfl
      subst hy
      clear Hx H HVal hxk hxs HX HR HV HQ
      go_enter Tryz.func116, Tryz.ntmps116
      go_wp2
      rw [HWe.out]
      clear HWe
      go_region
      all_goals
        go_wp2
        exact bodyPost_ret (v := .tuple #[tsV ⟨0, false, noS, 0, 0, noS⟩, .bool false]) (by simp [results, Tryz.results116, go_sem, r0, r1, r2, r3, r4, r5, tsV, noS]) rfl ⟨PlR.no _ HQn.out, HBe _ _ _ _ _ _⟩
    · have hd := isE_no hy
      have HQn : Hid (Q = some ⟨0, false, Y, 0, 0, noS⟩) := by
        rw [Hid, ← HQ.out]; unfold plainN
        rw [if_pos hxk, if_neg, hxs]
        intro e
        rw [e] at hxs
        exact hy hxs.symm
      clear Hx H HVal hxk hxs HX HR HV HQ hy
      go_enter Tryz.func116, Tryz.ntmps116
      go_wp2
      rw [HWe.out]
      clear HWe
      go_region
      all_goals
        go_wp2
        exact bodyPost_ret (v := .tuple #[tsV ⟨0, false, Y, 0, 0, noS⟩, .bool true]) (by simp [results, Tryz.results116, go_sem, r0, r1, r2, r3, r4, r5, tsV, noS]) rfl ⟨PlR.yes HQn.out, HBe _ _ _ _ _ _⟩
  · have hd : (K == 6) = false := by simpa using hk
    have HQn : Hid (Q = if vb = true then some ⟨0, false, noS, vk, vi, S⟩ else none) := by
      rw [Hid, ← HQ.out]; unfold plainN
      rw [if_neg (by rw [Hx.out.1]; exact hk), HV.out, ← HS.out]
    clear Hx H HX HV HQ hk
    go_enter Tryz.func116, Tryz.ntmps116
    go_wp2_with fail
    rw [HWe.out]
    clear HWe
    refine (HVal.out W).mono ?_
    rintro e w1 ⟨rfl, hb1⟩
    have HB1 : Hid (Below w.heap.size w w1) := next_trans HB.out hb1
    have HR1 : Hid (Bx w1 (w.heap.size + 1) #[.int .i64 0, .bool false, .string ⟨#[]⟩, .int .i64 0, .int .i64 0, .string ⟨#[]⟩]) := HR.out.next hb1
    have r0 : w1.cell? ⟨w.heap.size + 1, 0, none⟩ = some (.int .i64 0) := HR1.out.cell 0
    have r1 : w1.cell? ⟨w.heap.size + 1, 1, none⟩ = some (.bool false) := HR1.out.cell 1
    have r2 : w1.cell? ⟨w.heap.size + 1, 2, none⟩ = some (.string ⟨#[]⟩) := HR1.out.cell 2
    have r3 : w1.cell? ⟨w.heap.size + 1, 3, none⟩ = some (.int .i64 0) := HR1.out.cell 3
    have r4 : w1.cell? ⟨w.heap.size + 1, 4, none⟩ = some (.int .i64 0) := HR1.out.cell 4
    have r5 : w1.cell? ⟨w.heap.size + 1, 5, none⟩ = some (.string ⟨#[]⟩) := HR1.out.cell 5
    have rf := HR1.out.froz
    have hl1 : w.heap.size + 1 < w1.heap.size := HR1.out.lt
    have HBe := bel6a (b := w.heap.size + 1) HB1.out (by omega) (by omega)
    clear hb1 x0 x1 x2 x3 x4 HR HB hl HVal
    cases vb with
    | false =>
      have HQ2 : Hid (Q = none) := by rw [Hid, HQn.out]; rfl
      clear HQn
      go_wp2
      exact bodyPost_ret (v := .tuple #[tsV ⟨0, false, noS, vk, vi, S⟩, .bool false]) (by simp [results, Tryz.results116, go_sem, r0, r1, r2, r3, r4, r5, hl1, tsV, noS]) rfl ⟨PlR.no _ HQ2.out, HBe _ _ _ _ _ _ _⟩
    | true =>
      have HQ2 : Hid (Q = some ⟨0, false, noS, vk, vi, S⟩) := by rw [Hid, HQn.out]; rfl
      clear HQn
      go_wp2
      exact bodyPost_ret (v := .tuple #[tsV ⟨0, false, noS, vk, vi, S⟩, .bool true]) (by simp [results, Tryz.results116, go_sem, r0, r1, r2, r3, r4, r5, hl1, tsV, noS]) rfl ⟨PlR.yes HQ2.out, HBe _ _ _ _ _ _ _⟩

theorem term_bad {x : Nd} (h : x.k = 8) (h2 : x.l.length ≠ 1) : termN x = none := by
  obtain ⟨k, a, i, s, l⟩ := x
  simp only at h h2
  unfold termN
  rw [if_pos h]
  match l, h2 with
  | [], _ => rfl
  | [_], h2 => exact absurd rfl h2
  | _ :: _ :: _, _ => rfl
theorem term_not {x y : Nd} (h : x.k = 8) (h2 : x.l.length = 1) (h3 : x.l[0]? = some y) : termN x = (plainN y).map notTs := by
  obtain ⟨k, a, i, s, l⟩ := x
  simp only at h h2 h3
  unfold termN
  rw [if_pos h]
  match l, h2, h3 with
  | [z], _, h3 => simp at h3; subst h3; rfl

set_option maxHeartbeats 4000000 in
set_option maxRecDepth 8000 in
theorem pterm_any (x : Nd) (ao : Option Addr) (cap : Nat) (w : World) (hc : x.l.length ≤ cap) (hb : x.l.length ≤ 100000) (hk : IsNds w anyB ao x.l) :
    Calls Tryz.prog 86 #[ndV x ao cap] w fun e w' => PlR (termN x) e ∧ Below w.heap.size w w' := by
  obtain ⟨Q, HQ⟩ : ∃ Q, Hid (termN x = Q) := ⟨_, rfl⟩
  have HPl : Hid (∀ w, Calls Tryz.prog 116 #[ndV x ao cap] w fun e w' => PlR (plainN x) e ∧ Below w.heap.size w w') := fun w => pplain_any x ao cap w
  obtain ⟨K, A, I, Y, M, H, Hx⟩ := nd_open x ao cap
  rw [H.out] at HPl
  rw [H.out, HQ.out]
  have HI : Hid (IsNds w anyB ao x.l) := hk
  rw [Hx.out.2.2.2.2] at hc hb
  obtain ⟨W, HWe⟩ : ∃ W, Hid ((w.alloc (.cells #[.int .i64 K, .int .i64 A, .int .i64 I, .string Y, .slice ao M cap] 43)).alloc (.cells #[.int .i64 0, .bool false, .string ⟨#[]⟩, .int .i64 0, .int .i64 0, .string ⟨#[]⟩] 88) = W) := ⟨_, rfl⟩
  have HB : Hid (Below w.heap.size w W) := by rw [← HWe.out]; exact next_trans (alloc_below _ _) (alloc_below _ _)
  have HX : Hid (Bx W w.heap.size #[.int .i64 K, .int .i64 A, .int .i64 I, .string Y, .slice ao M cap]) := by rw [← HWe.out]; exact (Bx.made _ _ _).alloc _
  have HR : Hid (Bx W (w.heap.size + 1) #[.int .i64 0, .bool false, .string ⟨#[]⟩, .int .i64 0, .int .i64 0, .string ⟨#[]⟩]) := Bx.made' HWe.out (by simp)
  have x0 : W.cell? ⟨w.heap.size, 0, none⟩ = some (.int .i64 K) := HX.out.cell 0
  have x1 : W.cell? ⟨w.heap.size, 1, none⟩ = some (.int .i64 A) := HX.out.cell 1
  have x2 : W.cell? ⟨w.heap.size, 2, none⟩ = some (.int .i64 I) := HX.out.cell 2
  have x3 : W.cell? ⟨w.heap.size, 3, none⟩ = some (.string Y) := HX.out.cell 3
  have x4 : W.cell? ⟨w.heap.size, 4, none⟩ = some (.slice ao M cap) := HX.out.cell 4
  have hl : w.heap.size + 1 < W.heap.size := HR.out.lt
  clear hk
  by_cases h8 : K = 8
  case neg =>
    have hd : (K == 8) = false := by simpa using h8
    have HQp : Hid (Q = plainN x) := by rw [Hid, ← HQ.out]; unfold termN; rw [if_neg (by rw [Hx.out.1]; exact h8)]
    rw [HQp.out]
    clear Hx H HX HQ h8 HI HQp
    go_enter Tryz.func86, Tryz.ntmps86
    go_wp2_with fail
    rw [HWe.out]
    clear HWe
    refine (HPl.out W).mono ?_
    rintro e w1 ⟨⟨⟨tp, tn, tv, tk, ti, ts⟩, rfl, ht⟩, hb1⟩
    have HT : Hid (PlR (plainN x) (.returned (.tuple #[tsV ⟨tp, tn, tv, tk, ti, ts⟩, .bool (plainN x).isSome]))) := ⟨_, rfl, ht⟩
    obtain ⟨ok, Hok⟩ : ∃ ok, Hid ((plainN x).isSome = ok) := ⟨_, rfl⟩
    rw [Hok.out] at HT ⊢
    unfold tsV
    simp only
    have HB1 : Hid (Below w.heap.size w w1) := next_trans HB.out hb1
    have HR1 : Hid (Bx w1 (w.heap.size + 1) #[.int .i64 0, .bool false, .string ⟨#[]⟩, .int .i64 0, .int .i64 0, .string ⟨#[]⟩]) := HR.out.next hb1
    have r0 : w1.cell? ⟨w.heap.size + 1, 0, none⟩ = some (.int .i64 0) := HR1.out.cell 0
    have r1 : w1.cell? ⟨w.heap.size + 1, 1, none⟩ = some (.bool false) := HR1.out.cell 1
    have r2 : w1.cell? ⟨w.heap.size + 1, 2, none⟩ = some (.string ⟨#[]⟩) := HR1.out.cell 2
    have r3 : w1.cell? ⟨w.heap.size + 1, 3, none⟩ = some (.int .i64 0) := HR1.out.cell 3
    have r4 : w1.cell? ⟨w.heap.size + 1, 4, none⟩ = some (.int .i64 0) := HR1.out.cell 4
    have r5 : w1.cell? ⟨w.heap.size + 1, 5, none⟩ = some (.string ⟨#[]⟩) := HR1.out.cell 5
    have rf := HR1.out.froz
    have hl1 : w.heap.size + 1 < w1.heap.size := HR1.out.lt
    have HBe := bel6 (b := w.heap.size + 1) HB1.out (by omega)
    clear hb1 x0 x1 x2 x3 x4 HR HB hl HPl ht HR1 Hok
    go_wp2
    exact bodyPost_ret (v := .tuple #[.agg #[.int .i64 (tp : Int), .bool tn, .string tv, .int .i64 tk, .int .i64 ti, .string ts], .bool ok]) (by simp [results, Tryz.results86, go_sem, r0, r1, r2, r3, r4, r5]) rfl ⟨HT.out, HBe _ _ _ _ _ _⟩
  subst h8
  by_cases hm : M = 1
  case neg =>
    have hd : ((M : Int) == 1) = false := by simp; omega
    have HQn : Hid (Q = none) := by rw [Hid, ← HQ.out]; exact term_bad Hx.out.1 (by rw [Hx.out.2.2.2.2]; exact hm)
    have r0 : W.cell? ⟨w.heap.size + 1, 0, none⟩ = some (.int .i64 0) := HR.out.cell 0
    have r1 : W.cell? ⟨w.heap.size + 1, 1, none⟩ = some (.bool false) := HR.out.cell 1
    have r2 : W.cell? ⟨w.heap.size + 1, 2, none⟩ = some (.string ⟨#[]⟩) := HR.out.cell 2
    have r3 : W.cell? ⟨w.heap.size + 1, 3, none⟩ = some (.int .i64 0) := HR.out.cell 3
    have r4 : W.cell? ⟨w.heap.size + 1, 4, none⟩ = some (.int .i64 0) := HR.out.cell 4
    have r5 : W.cell? ⟨w.heap.size + 1, 5, none⟩ = some (.string ⟨#[]⟩) := HR.out.cell 5
    have rf := HR.out.froz
    clear Hx H HX HQ HI HPl HR hm
    go_enter Tryz.func86, Tryz.ntmps86
    go_wp2
    rw [HWe.out]
    clear HWe
    exact bodyPost_ret (v := .tuple #[tsV ⟨0, false, noS, 0, 0, noS⟩, .bool false]) (by simp [results, Tryz.results86, go_sem, r0, r1, r2, r3, r4, r5, tsV, noS]) rfl ⟨PlR.no _ HQn.out, HB.out⟩
  subst hm
  obtain ⟨y, hy⟩ := kid_at (l := x.l) (j := 0) (by rw [Hx.out.2.2.2.2]; omega)
  obtain ⟨b, o, va, vc, K1, A1, I1, Y1, M1, rfl, H1, Hv, hw1, Hk1⟩ := kid_get HI.out hy
  have HQm : Hid (Q = (plainN y).map notTs) := by rw [Hid, ← HQ.out]; exact term_not Hx.out.1 Hx.out.2.2.2.2 hy
  have HP1 : Hid (∀ w, Calls Tryz.prog 116 #[.agg #[.int .i64 (K1), .int .i64 (A1), .int .i64 (I1), .string (Y1), .slice va M1 vc]] w fun e w' => PlR (plainN y) e ∧ Below w.heap.size w w') := by rw [← H1.out]; exact fun w => pplain_any y va vc w
  obtain ⟨c0, c1, c2, c3, c4⟩ := hw1
  rw [Nat.zero_mul, Nat.add_zero] at c0 c1 c2 c3 c4
  have hbl := World.block_lt_of_cell? w _ c0
  simp only at hbl
  clear Hx H HX HQ HI HPl H1 Hv Hk1 hy
  go_enter Tryz.func86, Tryz.ntmps86
  go_wp2_with fail
  rw [HWe.out]
  clear HWe
  refine (HP1.out W).mono ?_
  rintro e w1 ⟨⟨⟨tp, tn, tv, tk, ti, ts⟩, rfl, ht⟩, hb1⟩
  obtain ⟨q, Hq⟩ : ∃ q, Hid (plainN y = q) := ⟨_, rfl⟩
  rw [Hq.out] at ht HQm ⊢
  have HT : Hid (∀ t', q = some t' → (⟨tp, tn, tv, tk, ti, ts⟩ : Ts) = t') := ht
  unfold tsV
  simp only
  have HB1 : Hid (Below w.heap.size w w1) := next_trans HB.out hb1
  have HR1 : Hid (Bx w1 (w.heap.size + 1) #[.int .i64 0, .bool false, .string ⟨#[]⟩, .int .i64 0, .int .i64 0, .string ⟨#[]⟩]) := HR.out.next hb1
  have r0 : w1.cell? ⟨w.heap.size + 1, 0, none⟩ = some (.int .i64 0) := HR1.out.cell 0
  have r1 : w1.cell? ⟨w.heap.size + 1, 1, none⟩ = some (.bool false) := HR1.out.cell 1
  have r2 : w1.cell? ⟨w.heap.size + 1, 2, none⟩ = some (.string ⟨#[]⟩) := HR1.out.cell 2
  have r3 : w1.cell? ⟨w.heap.size + 1, 3, none⟩ = some (.int .i64 0) := HR1.out.cell 3
  have r4 : w1.cell? ⟨w.heap.size + 1, 4, none⟩ = some (.int .i64 0) := HR1.out.cell 4
  have r5 : w1.cell? ⟨w.heap.size + 1, 5, none⟩ = some (.string ⟨#[]⟩) := HR1.out.cell 5
  have rf := HR1.out.froz
  have hl1 : w.heap.size + 1 < w1.heap.size := HR1.out.lt
  have HBe := bel6a (b := w.heap.size + 1) HB1.out (by omega) (by omega)
  clear hb1 x0 x1 x2 x3 x4 c0 c1 c2 c3 c4 HR HB hl HP1 ht HR1 Hq
  cases q with
  | none =>
    go_wp2
    exact bodyPost_ret (v := .tuple #[tsV ⟨tp, false, tv, tk, ti, ts⟩, .bool false]) (by simp [results, Tryz.results86, go_sem, r0, r1, r2, r3, r4, r5, hl1, tsV]) rfl ⟨PlR.no _ HQm.out, HBe _ _ _ _ _ _ _⟩
  | some t' =>
    have e := HT.out t' rfl
    subst e
    go_wp2
    exact bodyPost_ret (v := .tuple #[tsV ⟨tp, true, tv, tk, ti, ts⟩, .bool true]) (by simp [results, Tryz.results86, go_sem, r0, r1, r2, r3, r4, r5, hl1, tsV]) rfl ⟨PlR.yes HQm.out, HBe _ _ _ _ _ _ _⟩
end Go.Proofs.YtnhbjhdkpbhioaaGreatDoor
