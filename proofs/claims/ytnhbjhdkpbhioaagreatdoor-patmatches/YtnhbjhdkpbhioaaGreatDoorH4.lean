import Derived.Test.YtnhbjhdkpbhioaaGreatDoorPlTwo
import Derived.Test.YtnhbjhdkpbhioaaGreatDoorPtMatch
import Derived.Test.YtnhbjhdkpbhioaaGreatDoorPtVars
import Derived.Test.YtnhbjhdkpbhioaaGreatDoorH1
import Derived.Test.YtnhbjhdkpbhioaaGreatDoorG30
import Derived.Test.YtnhbjhdkpbhioaaGreatDoorG2
namespace Go.Proofs.YtnhbjhdkpbhioaaGreatDoor
open Go.RowKit
def kpA : List UInt8 := [40, 112, 32, 40, 97, 32, 63, 120, 41, 32, 40, 98, 32, 126, 53, 41, 41]
def kpN : Nd := ⟨0, 0, 0, [], [⟨2, 1, 0, [112], []⟩, ⟨0, 3, 0, [], [⟨2, 4, 0, [97], []⟩, ⟨6, 6, 0, [120], []⟩]⟩, ⟨0, 10, 0, [], [⟨2, 11, 0, [98], []⟩, ⟨8, 13, 0, [], [⟨1, 14, 5, [], []⟩]⟩]⟩]⟩
theorem read_kp : readQ kpA = ⟨[kpN], 0, 0⟩ := by rfl
def kpL : List Ts := [⟨0, false, baL [120], 0, 0, noS⟩, ⟨1, true, noS, 1, 5, noS⟩]
def kpP : Ptn := ⟨baL [112], kpL⟩
theorem plT_p : plT T2 (baL [112]) = some 0 := by unfold T2 plT; exact if_pos rfl
theorem slots_p : slotsAt T2 0 = [slA, slB] := rfl
theorem slots_q : slotsAt T2 1 = [slA] := rfl
theorem place_a : placeS [slA, slB] (baL [97]) = some 0 := place_at _ _ 0 slA rfl rfl fun m s hm => absurd hm (by omega)
theorem place_b : placeS [slA, slB] (baL [98]) = some 1 := by
  refine place_at _ _ 1 slB rfl rfl fun m s hm hs => ?_
  obtain rfl : m = 0 := by omega
  simp at hs
  subst hs
  exact baL_ne (by decide)
theorem place_qa : placeS [slA] (baL [97]) = some 0 := place_at _ _ 0 slA rfl rfl fun m s hm => absurd hm (by omega)
theorem one_p : OneN [slA, slB] := fun p s h => by
  match p, h with
  | 0, h => simp at h; subst h; exact place_a
  | 1, h => simp at h; subst h; exact place_b
  | p + 2, h => simp at h
theorem one_q : OneN [slA] := fun p s h => by
  match p, h with
  | 0, h => simp at h; subst h; exact place_qa
  | p + 1, h => simp at h
theorem T2_len : ∀ t ∈ T2, t.l.length ≤ 1000 := by
  intro t ht
  simp [T2] at ht
  rcases ht with rfl | rfl <;> decide
theorem one_at {n : ByteArray} {q : Nat} (h : plT T2 n = some q) : OneN (slotsAt T2 q) := by
  have hq := plT_lt h
  match q, hq with
  | 0, _ => exact one_p
  | 1, _ => exact one_q
  | q + 2, hq => exact absurd hq (by simp [T2])
theorem par_kp : parP T2 kpN = .ok kpP := by
  have h1 : nextR [slA, slB] [] ⟨0, 3, 0, [], [⟨2, 4, 0, [97], []⟩, ⟨6, 6, 0, [120], []⟩]⟩ = .ok ⟨0, false, baL [120], 0, 0, noS⟩ := by
    rw [next_go (m := ⟨2, 4, 0, [97], []⟩) (y := ⟨6, 6, 0, [120], []⟩) rfl rfl, place_a]
    rfl
  have h2 : nextR [slA, slB] [⟨0, false, baL [120], 0, 0, noS⟩] ⟨0, 10, 0, [], [⟨2, 11, 0, [98], []⟩, ⟨8, 13, 0, [], [⟨1, 14, 5, [], []⟩]⟩]⟩ = .ok ⟨1, true, noS, 1, 5, noS⟩ := by
    rw [next_go (m := ⟨2, 11, 0, [98], []⟩) (y := ⟨8, 13, 0, [], [⟨1, 14, 5, [], []⟩]⟩) rfl rfl, place_b]
    rfl
  have hr : runP [slA, slB] [] [⟨0, 3, 0, [], [⟨2, 4, 0, [97], []⟩, ⟨6, 6, 0, [120], []⟩]⟩, ⟨0, 10, 0, [], [⟨2, 11, 0, [98], []⟩, ⟨8, 13, 0, [], [⟨1, 14, 5, [], []⟩]⟩]⟩] = .ok kpL := by
    rw [runP, h1]
    simp only [List.nil_append]
    rw [runP, h2]
    rfl
  unfold parP kpN
  rw [show headO ⟨0, 0, 0, [], [⟨2, 1, 0, [112], []⟩, ⟨0, 3, 0, [], [⟨2, 4, 0, [97], []⟩, ⟨6, 6, 0, [120], []⟩]⟩, ⟨0, 10, 0, [], [⟨2, 11, 0, [98], []⟩, ⟨8, 13, 0, [], [⟨1, 14, 5, [], []⟩]⟩]⟩]⟩ = some [112] from rfl]
  simp only [plT_p, slots_p, List.tail_cons, hr]
  rfl
def vI (a : Int) : Val := ⟨1, a, noS⟩
theorem noS_x : (baL [120] : ByteArray) ≠ noS := baL_no (by decide)
theorem step_x (F : List Val) (v : Val) (h : F[0]? = some v) : stepM F [] ⟨0, false, baL [120], 0, 0, noS⟩ = some [⟨baL [120], v.k, v.i, v.s⟩] := by
  unfold stepM
  simp only [h]
  rw [if_neg noS_x]
  rfl
theorem mat_run (id : Int) {v : List Val} : matP kpP ⟨id, baL [112], v⟩ [] = matchL v kpL [] := by unfold matP; exact if_pos rfl
theorem mat_kp (id : Int) : matP kpP ⟨id, baL [112], [vI 1, vI 2]⟩ [] = some [⟨baL [120], 1, 1, noS⟩] := by
  rw [mat_run id]
  unfold kpL
  rw [matchL, step_x _ (vI 1) rfl]
  rfl
theorem mat_kp5 (id : Int) : matP kpP ⟨id, baL [112], [vI 1, vI 5]⟩ [] = none := by
  rw [mat_run id]
  unfold kpL
  rw [matchL, step_x _ (vI 1) rfl]
  rfl
theorem alon_kp (id : Int) : alonB kpP ⟨id, baL [112], [vI 1, vI 2]⟩ = true := by
  rw [alon_l rfl]
  unfold aloneL kpP kpL
  simp only [List.all_cons, List.all_nil]
  rw [aloneT_var (v := vI 1) rfl noS_x, aloneT_val (v := vI 2) rfl rfl]
  rfl
theorem vars_kp : varsL kpP.l = [baL [120]] := by
  unfold varsL kpP kpL
  simp only [List.foldl_cons, List.foldl_nil]
  rw [varOne_any (t := ⟨0, false, baL [120], 0, 0, noS⟩) noS_x rfl]
  rw [varOne_val (t := ⟨1, true, noS, 1, 5, noS⟩) rfl]
  rfl
def kpM : Nd := ⟨0, 0, 0, [], [⟨2, 0, 0, [112], []⟩, ⟨0, 0, 0, [], [⟨2, 0, 0, [97], []⟩, ⟨6, 0, 0, [120], []⟩]⟩, ⟨0, 0, 0, [], [⟨2, 0, 0, [98], []⟩, ⟨8, 0, 0, [], [⟨1, 0, 5, [], []⟩]⟩]⟩]⟩
theorem nd_kp : ptNd [slA, slB] kpP = kpM := by
  unfold ptNd kpP kpL
  simp only [List.map_cons, List.map_nil]
  unfold tsNd termNd plainNd
  simp only [noS_x, if_false, if_true, Bool.false_eq_true]
  rfl
theorem txt_kp : txtN kpM = kpA := by
  unfold kpM
  simp only [txtN_mk, txtB_cons, txtR_cons, txtR_nil, txtB_nil, tokL_sym]
  rw [show (if (1 : Int) = 0 then 40 :: (([] : List UInt8) ++ [41]) else if (1 : Int) = 8 then 126 :: [] else tokL 1 5 []) = [53] from by rw [if_neg (by decide), if_neg (by decide), tokL_int]; exact itoa_one9 5 (by decide)]
  rfl
theorem wf_kp : WfN kpM := by
  have hs : ∀ s : List UInt8, s.length ≤ 40 → 1 ≤ s.length → s.all signB = true → shapeL s = false → WfT 2 0 s := fun s h1 h2 h3 h4 => .inr (.inl ⟨rfl, rfl, h2, h1, h3, h4⟩)
  have hl : ∀ {l : List Nd}, WfL l → WfN ⟨0, 0, 0, [], l⟩ := fun h => by rw [WfN_mk]; exact .inl ⟨rfl, rfl, rfl, h⟩
  have hv : WfN ⟨6, 0, 0, [120], []⟩ := by rw [WfN_mk]; exact .inr (.inr ⟨⟨.inr (.inr (.inr (.inr ⟨.inl rfl, rfl, by decide⟩))), rfl⟩, rfl⟩)
  have hn : WfN ⟨8, 0, 0, [], [⟨1, 0, 5, [], []⟩]⟩ := by rw [WfN_mk]; exact .inr (.inl ⟨rfl, rfl, rfl, 1, 0, 5, [], rfl, .inl ⟨rfl, by decide, rfl⟩, rfl⟩)
  unfold kpM
  refine hl ?_
  rw [WfL_cons, WfL_cons, WfL_cons]
  refine ⟨wf_sym9 0 (hs _ (by decide) (by decide) (by decide) (by decide)), hl ?_, hl ?_, WfL_nil⟩
  · rw [WfL_cons, WfL_cons]; exact ⟨wf_sym9 0 (hs _ (by decide) (by decide) (by decide) (by decide)), hv, WfL_nil⟩
  · rw [WfL_cons, WfL_cons]; exact ⟨wf_sym9 0 (hs _ (by decide) (by decide) (by decide) (by decide)), hn, WfL_nil⟩
theorem cnt_kp : cntN kpM ≤ 20 := by
  unfold kpM
  simp only [cntN_mk, cntL_cons, cntL_nil]
  omega
end Go.Proofs.YtnhbjhdkpbhioaaGreatDoor
namespace Go.Proofs.YtnhbjhdkpbhioaaGreatDoor
open Go.RowKit
set_option maxHeartbeats 4000000 in
set_option maxRecDepth 8000 in
theorem twov_any (a b : Int) (w : World) :
    Calls Tryz.prog 35 #[.int .i64 a, .int .i64 b] w fun e w' => (∃ ao cap, e = .returned (.slice ao 2 cap) ∧ IsVals w' ao [vI a, vI b]) ∧ Below w.heap.size w w' := by
  go_enter Tryz.func35, Tryz.ntmps35
  go_wp2_with (go_at_call 74; refine (rint_any a _).mono ?_; rintro e w1 ⟨rfl, hb1⟩)
  go_wp2_with (go_at_call 74; refine (rint_any b _).mono ?_; rintro e w2 ⟨rfl, hb2⟩)
  obtain ⟨W, HW⟩ : ∃ W, Hid (w2.alloc (.cells #[.int .i64 1, .int .i64 a, .string ⟨#[]⟩, .int .i64 1, .int .i64 b, .string ⟨#[]⟩] 71) = W) := ⟨_, rfl⟩
  have X : Hid (Bx W w2.heap.size #[.int .i64 1, .int .i64 a, .string ⟨#[]⟩, .int .i64 1, .int .i64 b, .string ⟨#[]⟩]) := Bx.made' HW.out rfl
  have HB : Hid (Below w.heap.size w W) := by rw [← HW.out]; exact next_trans (next_trans hb1 hb2) (alloc_below _ _)
  rw [HW.out]
  go_ret
  refine ⟨⟨_, _, rfl, fun j t hj => ?_⟩, HB.out⟩
  match j, hj with
  | 0, hj => simp at hj; subst hj; exact ⟨_, _, rfl, X.out.cell 0, X.out.cell 1, X.out.cell 2⟩
  | 1, hj => simp at hj; subst hj; exact ⟨_, _, rfl, X.out.cell 3, X.out.cell 4, X.out.cell 5⟩
  | j + 2, hj => simp at hj
end Go.Proofs.YtnhbjhdkpbhioaaGreatDoor
