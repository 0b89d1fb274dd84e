/- The law's known: its text, what it reads as. -/
import Derived.Deep.RegionHeld3
import Derived.Test.YtlniifheapoppaaDoorG24
import Derived.Test.YtlniifheapoppaaDoorG28
import Derived.Test.YtlniifheapoppaaDoorG10
import Derived.Test.YtlniifheapoppaaDoorG29
import Derived.Test.YtlniifheapoppaaDoorG26
import Derived.Test.YtlniifheapoppaaDoorG27
import Derived.Test.YtlniifheapoppaaDoorG14
import Derived.Test.YtlniifheapoppaaDoorG8
namespace Go.Proofs.YtlniifheapoppaaDoor
open Go.RowKit

def k9A : List UInt8 := [40, 100, 101, 102, 116, 101, 109, 112, 108, 97, 116, 101, 32, 112, 32, 40, 115, 108, 111, 116, 32, 97, 41, 32, 40, 115, 108, 111, 116, 32, 98, 32, 40, 100, 101, 102, 97, 117, 108, 116, 32, 53, 41, 41, 41]
def k9N : Nd := ⟨0, 0, 0, [], [⟨2, 1, 0, wTmpl, []⟩, ⟨2, 13, 0, [112], []⟩, ⟨0, 15, 0, [], [⟨2, 16, 0, wSlot, []⟩, ⟨2, 21, 0, [97], []⟩]⟩, ⟨0, 24, 0, [], [⟨2, 25, 0, wSlot, []⟩, ⟨2, 30, 0, [98], []⟩, ⟨0, 32, 0, [], [⟨2, 33, 0, wDef, []⟩, ⟨1, 41, 5, [], []⟩]⟩]⟩]⟩
theorem read_k9 : readQ k9A = ⟨[k9N], 0, 0⟩ := by rfl
def k9S : List Sl := [⟨baL [97], 2, 0, baL wNil⟩, ⟨baL [98], 1, 5, baL []⟩]
def k9T : Tp := ⟨baL [112], k9S⟩
theorem place_k9a : placeS k9S (baL [97]) = some 0 := by
  refine place_at k9S _ 0 ⟨baL [97], 2, 0, baL wNil⟩ rfl rfl fun m s hm => absurd hm (by omega)
theorem baL_ne {a b : List UInt8} (h : a ≠ b) : baL a ≠ baL b := fun e => h (by rw [← baL_list a, e, baL_list])
theorem place_k9b : placeS k9S (baL [98]) = some 1 := by
  refine place_at k9S _ 1 ⟨baL [98], 1, 5, baL []⟩ rfl rfl fun m s hm hs => ?_
  obtain rfl : m = 0 := by omega
  simp [k9S] at hs
  subst hs
  exact baL_ne (by decide)
theorem place_k9c : placeS k9S (baL [99]) = none := by
  rw [place_none]
  intro s hs
  simp [k9S] at hs
  rcases hs with rfl | rfl
  · exact baL_ne (by decide)
  · exact baL_ne (by decide)
theorem par_k9 : parT k9N = .ok k9T := by
  have hg1 : nameB ⟨2, 13, 0, [112], []⟩ = true := by decide
  have hg2 : nameB ⟨2, 21, 0, [97], []⟩ = true := by decide
  have hg3 : nameB ⟨2, 30, 0, [98], []⟩ = true := by decide
  have h1 : slotN ⟨0, 15, 0, [], [⟨2, 16, 0, wSlot, []⟩, ⟨2, 21, 0, [97], []⟩]⟩ = some ⟨baL [97], 2, 0, baL wNil⟩ := by
    unfold slotN
    rw [if_pos (by rfl)]
    simp only [hg2, if_true]
  have h2 : slotN ⟨0, 24, 0, [], [⟨2, 25, 0, wSlot, []⟩, ⟨2, 30, 0, [98], []⟩, ⟨0, 32, 0, [], [⟨2, 33, 0, wDef, []⟩, ⟨1, 41, 5, [], []⟩]⟩]⟩ = some ⟨baL [98], 1, 5, baL []⟩ := by
    unfold slotN
    rw [if_pos (by rfl)]
    simp only [hg3, if_true]
    rfl
  have r1 : slotR [] ⟨0, 15, 0, [], [⟨2, 16, 0, wSlot, []⟩, ⟨2, 21, 0, [97], []⟩]⟩ = .ok ⟨baL [97], 2, 0, baL wNil⟩ := by
    unfold slotR; rw [h1]; rfl
  have hp : placeS [⟨baL [97], 2, 0, baL wNil⟩] (baL [98]) = none := by
    rw [place_none]
    intro s hs
    simp at hs
    subst hs
    exact baL_ne (by decide)
  have r2 : slotR [⟨baL [97], 2, 0, baL wNil⟩] ⟨0, 24, 0, [], [⟨2, 25, 0, wSlot, []⟩, ⟨2, 30, 0, [98], []⟩, ⟨0, 32, 0, [], [⟨2, 33, 0, wDef, []⟩, ⟨1, 41, 5, [], []⟩]⟩]⟩ = .ok ⟨baL [98], 1, 5, baL []⟩ := by
    unfold slotR; rw [h2]; simp only; rw [hp]; rfl
  have hr : runT [] [⟨0, 15, 0, [], [⟨2, 16, 0, wSlot, []⟩, ⟨2, 21, 0, [97], []⟩]⟩, ⟨0, 24, 0, [], [⟨2, 25, 0, wSlot, []⟩, ⟨2, 30, 0, [98], []⟩, ⟨0, 32, 0, [], [⟨2, 33, 0, wDef, []⟩, ⟨1, 41, 5, [], []⟩]⟩]⟩] = .ok k9S := by
    rw [runT, r1]
    simp only [List.nil_append]
    rw [runT, r2]
    rfl
  unfold parT k9N
  rw [if_pos (by rfl)]
  simp only [hg1, if_true, hr]
  rfl
theorem fill_k9 : fillR k9S [baL [97]] [⟨2, 0, baL [120]⟩] = .ok [⟨2, 0, baL [120]⟩, ⟨1, 5, baL []⟩] := by
  unfold fillR
  rw [if_pos (show [baL _].length = [(⟨2, 0, baL [120]⟩ : Val)].length from rfl)]
  show fillL k9S [] (defsS k9S) [(baL [97], ⟨2, 0, baL [120]⟩)] = _
  rw [fillL, place_k9a]
  rfl
theorem fill_k9c : fillR k9S [baL [99]] [⟨2, 0, baL [120]⟩] = .error 5 := by
  unfold fillR
  rw [if_pos (show [baL _].length = [(⟨2, 0, baL [120]⟩ : Val)].length from rfl)]
  show fillL k9S [] (defsS k9S) [(baL [99], ⟨2, 0, baL [120]⟩)] = _
  rw [fillL, place_k9c]
theorem itoa_one9 (d : Nat) (h : d < 10) : Lib.itoa (d : Int) = [UInt8.ofNat (48 + d)] := by
  unfold Lib.itoa
  rw [if_neg (by omega), show ((d : Int)).toNat = d by omega, Lib.decDigits_one h]
theorem text_k9 : textT k9T [⟨2, 0, baL [120]⟩, ⟨1, 5, baL []⟩] = [40, 112, 32, 40, 97, 32, 120, 41, 32, 40, 98, 32, 53, 41, 41] := by
  have h5 : (textS 1 5 (baL [])).data.toList = [53] := by
    show Lib.itoa 5 = [53]
    exact itoa_one9 5 (by decide)
  have hx : (textS 2 0 (baL [120])).data.toList = [120] := rfl
  unfold textT textP k9T k9S
  simp only [List.zip_cons_cons, List.zip_nil_right, List.map_cons, List.map_nil, List.flatten_cons, List.flatten_nil, partS, h5, hx]
  rfl
theorem txt_k9 : txtN (tmplNd k9T) = k9A := by
  have h5 : txtN ⟨1, 0, 5, [], []⟩ = [53] := by
    rw [txtN_mk, if_neg (by decide), if_neg (by decide), tokL_int]
    exact itoa_one9 5 (by decide)
  have hn1 : nilS ⟨baL [97], 2, 0, baL wNil⟩ = true := by unfold nilS; exact sameB_refl _ _ _
  have hn2 : nilS ⟨baL [98], 1, 5, baL []⟩ = false := by unfold nilS; exact sameB_no (by rintro ⟨h, _⟩; cases h)
  have e : tmplNd k9T = ⟨0, 0, 0, [], [⟨2, 0, 0, wTmpl, []⟩, ⟨2, 0, 0, [112], []⟩, ⟨0, 0, 0, [], [⟨2, 0, 0, wSlot, []⟩, ⟨2, 0, 0, [97], []⟩]⟩, ⟨0, 0, 0, [], [⟨2, 0, 0, wSlot, []⟩, ⟨2, 0, 0, [98], []⟩, ⟨0, 0, 0, [], [⟨2, 0, 0, wDef, []⟩, ⟨1, 0, 5, [], []⟩]⟩]⟩]⟩ := by
    unfold tmplNd k9T k9S slotNd
    simp only [List.map_cons, List.map_nil, hn1, hn2, if_true, Bool.false_eq_true, if_false]
    rfl
  rw [e]
  simp only [txtN_mk, txtB_cons, txtR_cons, txtR_nil, txtB_nil, tokL_sym]
  rw [show (if (1 : Int) = 0 then 40 :: (([] : List UInt8) ++ [41]) else if (1 : Int) = 8 then 126 :: [] else tokL 1 5 []) = [53] from by rw [if_neg (by decide), if_neg (by decide), tokL_int]; exact itoa_one9 5 (by decide)]
  rfl
end Go.Proofs.YtlniifheapoppaaDoor
/- The law's known: a template of two slots. -/
namespace Go.Proofs.YtlniifheapoppaaDoor
open Go.RowKit

theorem read_ok9 (ao : Option Addr) (n cap : Nat) (l : List UInt8) (L : List Nd) (a : Nat) (w : World) (hl : l.length = n) (h : IsB w ao l) (hn : n ≤ 65536) (hc : n ≤ cap) (hm : MaxW w) (hs : readQ l = ⟨L, a, 0⟩) :
    Calls Tryd.prog 9 #[.slice ao n cap] w fun e w' => (∃ ao cap, e = .returned (.tuple #[.slice ao L.length cap, .nilIface]) ∧ L.length ≤ cap ∧ IsNds w' anyB ao L) ∧ Below w.heap.size w w' := by
  refine (read_any ao n cap l w hl h hn hc hm).mono ?_
  rintro e w1 ⟨hb, hr⟩
  rw [hs] at hr
  rcases hr with ⟨_, ao, cap, h1, h2, h3⟩ | ⟨hx, _⟩
  · exact ⟨⟨ao, cap, h1, h2, h3.any⟩, hb⟩
  · exact absurd rfl hx
theorem nodeV_of {w : World} {S : Nat → Prop} {c : Nc} {x : Nd} (h : NcIs w S c x) : nodeV c = ndV x c.ao c.cap ∧ x.l.length ≤ c.cap ∧ IsNds w anyB c.ao x.l := by
  obtain ⟨ck, ca, ci, cs, cao, cn, ccap⟩ := c
  obtain ⟨h1, h2, h3, h4, h5, h6, h7⟩ := h
  simp only at h1 h2 h3 h4 h5 h6 h7
  subst h1 h2 h3 h4 h5
  exact ⟨rfl, h6, h7.any⟩
theorem calls_at {K : Nat} {args : Array Value} {W2 W : World} {Q : Ending → World → Prop} (hB : Below W2.heap.size W2 W) (h : Below W2.heap.size W2 W → Calls Tryd.prog K args W Q) : Calls Tryd.prog K args W Q := h hB
theorem strs_one {w : World} {b : Nat} {s : ByteArray} (h : w.cell? ⟨b, 0, none⟩ = some (.string s)) : StrsA w (some ⟨b, 0, none⟩) [s] := fun j x hj => by
  cases j with
  | zero => simp at hj; subst hj; exact ⟨b, 0, rfl, h⟩
  | succ j => simp at hj
theorem vals_one {w : World} {b : Nat} {k i : Int} {s : ByteArray} (h0 : w.cell? ⟨b, 0, none⟩ = some (.int .i64 k)) (h1 : w.cell? ⟨b, 1, none⟩ = some (.int .i64 i)) (h2 : w.cell? ⟨b, 2, none⟩ = some (.string s)) : IsVals w (some ⟨b, 0, none⟩) [⟨k, i, s⟩] := fun j x hj => by
  cases j with
  | zero => simp at hj; subst hj; exact ⟨b, 0, rfl, h0, h1, h2⟩
  | succ j => simp at hj
theorem wf_sym9 (a : Nat) {s : List UInt8} (h : WfT 2 0 s) : WfN ⟨2, a, 0, s, []⟩ := by rw [WfN_mk]; exact .inr (.inr ⟨⟨h, rfl⟩, rfl⟩)
theorem wf_k9 : WfN (tmplNd k9T) := by
  have hs : ∀ s : List UInt8, s.length ≤ 40 → 1 ≤ s.length → s.all signB = true → shapeL s = false → WfT 2 0 s := fun s h1 h2 h3 h4 => .inr (.inl ⟨rfl, rfl, h2, h1, h3, h4⟩)
  have hn1 : nilS ⟨baL [97], 2, 0, baL wNil⟩ = true := by unfold nilS; exact sameB_refl _ _ _
  have hn2 : nilS ⟨baL [98], 1, 5, baL []⟩ = false := by unfold nilS; exact sameB_no (by rintro ⟨h, _⟩; cases h)
  have e : tmplNd k9T = ⟨0, 0, 0, [], [⟨2, 0, 0, wTmpl, []⟩, ⟨2, 0, 0, [112], []⟩, ⟨0, 0, 0, [], [⟨2, 0, 0, wSlot, []⟩, ⟨2, 0, 0, [97], []⟩]⟩, ⟨0, 0, 0, [], [⟨2, 0, 0, wSlot, []⟩, ⟨2, 0, 0, [98], []⟩, ⟨0, 0, 0, [], [⟨2, 0, 0, wDef, []⟩, ⟨1, 0, 5, [], []⟩]⟩]⟩]⟩ := by
    unfold tmplNd k9T k9S slotNd
    simp only [List.map_cons, List.map_nil, hn1, hn2, if_true, Bool.false_eq_true, if_false]
    rfl
  have hl : ∀ {l : List Nd}, WfL l → WfN ⟨0, 0, 0, [], l⟩ := fun h => by rw [WfN_mk]; exact .inl ⟨rfl, rfl, rfl, h⟩
  have hi : WfN ⟨1, 0, 5, [], []⟩ := by rw [WfN_mk]; exact .inr (.inr ⟨⟨.inl ⟨rfl, by decide, rfl⟩, rfl⟩, rfl⟩)
  rw [e]
  refine hl ?_
  rw [WfL_cons, WfL_cons, WfL_cons, WfL_cons]
  refine ⟨wf_sym9 0 (hs _ (by decide) (by decide) (by decide) (by decide)), wf_sym9 0 (hs _ (by decide) (by decide) (by decide) (by decide)), hl ?_, hl ?_, WfL_nil⟩
  · rw [WfL_cons, WfL_cons]
    exact ⟨wf_sym9 0 (hs _ (by decide) (by decide) (by decide) (by decide)), wf_sym9 0 (hs _ (by decide) (by decide) (by decide) (by decide)), WfL_nil⟩
  · rw [WfL_cons, WfL_cons, WfL_cons]
    refine ⟨wf_sym9 0 (hs _ (by decide) (by decide) (by decide) (by decide)), wf_sym9 0 (hs _ (by decide) (by decide) (by decide) (by decide)), hl ?_, WfL_nil⟩
    rw [WfL_cons, WfL_cons]
    exact ⟨wf_sym9 0 (hs _ (by decide) (by decide) (by decide) (by decide)), hi, WfL_nil⟩
theorem cnt_k9 : cntN (tmplNd k9T) ≤ 20 := by
  have hn1 : nilS ⟨baL [97], 2, 0, baL wNil⟩ = true := by unfold nilS; exact sameB_refl _ _ _
  have hn2 : nilS ⟨baL [98], 1, 5, baL []⟩ = false := by unfold nilS; exact sameB_no (by rintro ⟨h, _⟩; cases h)
  unfold tmplNd k9T k9S slotNd
  simp only [List.map_cons, List.map_nil, hn1, hn2, if_true, Bool.false_eq_true, if_false, cntN_mk, cntL_cons, cntL_nil, tsym, defNd, valNd]
  omega

set_option maxHeartbeats 16000000 in
set_option maxRecDepth 8000 in
theorem known9 (w : World) (ht : TabW w) (hm : MaxW w) :
    Calls Tryd.prog 4 #[] w fun e w' => e = .returned (.bool true) ∧ Below w.heap.size w w' := by
  have HT : Hid (TabW w) := ht
  have HM : Hid (MaxW w) := hm
  clear ht hm
  have hcv := Lib.run_convert_bytes_const (P := Tryd.prog) w 30 5 #[.int .u8 40, .int .u8 100, .int .u8 101, .int .u8 102, .int .u8 116, .int .u8 101, .int .u8 109, .int .u8 112, .int .u8 108, .int .u8 97, .int .u8 116, .int .u8 101, .int .u8 32, .int .u8 112, .int .u8 32, .int .u8 40, .int .u8 115, .int .u8 108, .int .u8 111, .int .u8 116, .int .u8 32, .int .u8 97, .int .u8 41, .int .u8 32, .int .u8 40, .int .u8 115, .int .u8 108, .int .u8 111, .int .u8 116, .int .u8 32, .int .u8 98, .int .u8 32, .int .u8 40, .int .u8 100, .int .u8 101, .int .u8 102, .int .u8 97, .int .u8 117, .int .u8 108, .int .u8 116, .int .u8 32, .int .u8 53, .int .u8 41, .int .u8 41, .int .u8 41] 45 45 Tryd.underlying30 Tryd.underlying5
  simp only [List.size_toArray, List.length_cons, List.length_nil, Nat.zero_add, Nat.reduceAdd] at hcv
  go_enter Tryd.func4, Tryd.ntmps4
  go_wp2_with fail
  refine (read_ok9 _ 45 45 k9A [k9N] 0 _ rfl (Bs_mark w k9A _ _ _ rfl).isB (by omega) (by omega) (HM.out.next (alloc_below _ _)) read_k9).mono ?_
  rintro e w1 ⟨⟨ao, cap, rfl, hc, hN⟩, hb1⟩
  have HB1 : Hid (Below w.heap.size w w1) := next_trans (alloc_below _ _) hb1
  obtain ⟨b, o, a0, cap0, rfl, hA0⟩ := hN.at (j := 0) rfl
  have HPa : Hid (∀ w', Below w1.heap.size w1 w' → Calls Tryd.prog 10 #[.agg #[.int .i64 (0), .int .i64 (0), .int .i64 (0), .string (⟨#[]⟩), .slice a0 4 cap0]] w' fun e w2 => (∃ to tc, e = .returned (.tuple #[.agg #[.string (baL [112]), .slice to 2 tc], .nilIface]) ∧ IsSls w2 to k9S) ∧ Below w'.heap.size w' w2) := by
    intro w' hw
    refine (tparse_any k9N a0 cap0 w' (by have : cntN k9N ≤ 20 := by simp only [k9N, cntN_mk, cntL_cons, cntL_nil]; omega
                                          omega) (by
      intro y hy
      have hall : ∀ y ∈ k9N.l, y.s.length ≤ 20 ∧ ∀ z ∈ y.l, z.s.length ≤ 20 := by decide
      obtain ⟨h1, h2⟩ := hall y hy
      exact ⟨by omega, fun z hz => by have := h2 z hz; omega⟩) hA0.hc (hA0.kids.next hw)).mono ?_
    rintro e w2 ⟨hbe, hr⟩
    rw [par_k9] at hr
    rcases hr with ⟨t, to, tc, h1, h2, h3, h4⟩ | ⟨a, f, B, h1, _⟩
    · injection h1 with h1
      subst h1
      exact ⟨⟨to, tc, h2, h4⟩, hbe⟩
    · cases h1
  have c0 : w1.cell? ⟨b, o, none⟩ = some (.int .i64 0) := hA0.c0
  have c1 : w1.cell? ⟨b, o + 1, none⟩ = some (.int .i64 0) := hA0.c1
  have c2 : w1.cell? ⟨b, o + 2, none⟩ = some (.int .i64 0) := hA0.c2
  have c3 : w1.cell? ⟨b, o + 3, none⟩ = some (.string ⟨#[]⟩) := hA0.c3
  have c4 : w1.cell? ⟨b, o + 4, none⟩ = some (.slice a0 4 cap0) := hA0.c4
  simp only [List.length_cons, List.length_nil, Nat.zero_add] at hc ⊢
  clear hb1 hcv hN hA0
  go_wp2_with fail
  refine (HPa.out w1 (Below.refl _ _)).mono ?_
  rintro e w2 ⟨⟨to, tc, rfl, hs2⟩, hb2⟩
  have HB2 : Hid (Below w.heap.size w w2) := next_trans HB1.out hb2
  obtain ⟨TB, HTB⟩ : ∃ TB, Hid (w2.heap.size = TB) := ⟨_, rfl⟩
  obtain ⟨W3, HW3⟩ : ∃ W3, Hid (w2.alloc (.cells #[.string (baL [112]), .slice to 2 tc] 26) = W3) := ⟨_, rfl⟩
  have HX3 : Hid (Bx W3 TB #[.string (baL [112]), .slice to 2 tc]) := Bx.made' HW3.out HTB.out
  have HB3 : Hid (Below w.heap.size w W3) := by rw [← HW3.out]; exact next_trans HB2.out (alloc_below _ _)
  have HS3 : Hid (IsSls W3 to k9S) := by rw [← HW3.out]; exact hs2.next (alloc_below _ _)
  clear c0 c1 c2 c3 c4 hb2 hs2 HPa HB1 hc
  have HFa : Hid (∀ W no nc vo vc, Below W3.heap.size W3 W → StrsA W no [baL [97]] → IsVals W vo [⟨2, 0, baL [120]⟩] → Calls Tryd.prog 7 #[.agg #[.string (baL [112]), .slice to 2 tc], .slice no 1 nc, .slice vo 1 vc] W fun e w' => (∃ fo fc, e = .returned (.tuple #[.slice fo 2 fc, .int .i64 0]) ∧ IsVals w' fo [⟨2, 0, baL [120]⟩, ⟨1, 5, baL []⟩]) ∧ Below W.heap.size W w') := by
    intro W no nc vo vc hB hn hv
    refine (fill_any k9T to tc no vo 1 1 nc vc [baL [97]] [⟨2, 0, baL [120]⟩] W (by decide) rfl rfl (by decide) (HS3.out.next hB) hn hv).mono ?_
    rintro e w' ⟨hbe, hr⟩
    rcases hr with ⟨out, fo, fc, h1, h2, h3, h4⟩ | ⟨f, h1, _⟩
    · have h1' : (Except.ok _ : Except Int (List Val)) = .ok out := fill_k9.symm.trans h1
      injection h1' with h1'
      subst h1'
      exact ⟨⟨fo, fc, h2, h4⟩, hbe⟩
    · have h1' := fill_k9.symm.trans h1; cases h1'
  have HFc : Hid (∀ W no nc vo vc, Below W3.heap.size W3 W → StrsA W no [baL [99]] → IsVals W vo [⟨2, 0, baL [120]⟩] → Calls Tryd.prog 7 #[.agg #[.string (baL [112]), .slice to 2 tc], .slice no 1 nc, .slice vo 1 vc] W fun e w' => e = .returned (.tuple #[.slice none 0 0, .int .i64 5]) ∧ Below W.heap.size W w') := by
    intro W no nc vo vc hB hn hv
    refine (fill_any k9T to tc no vo 1 1 nc vc [baL [99]] [⟨2, 0, baL [120]⟩] W (by decide) rfl rfl (by decide) (HS3.out.next hB) hn hv).mono ?_
    rintro e w' ⟨hbe, hr⟩
    rcases hr with ⟨out, fo, fc, h1, _⟩ | ⟨f, h1, h2⟩
    · have h1' := fill_k9c.symm.trans h1; cases h1'
    · have h1' : (Except.error _ : Except Int (List Val)) = .error f := fill_k9c.symm.trans h1
      injection h1' with h1'
      subst h1'
      exact ⟨h2, hbe⟩
  have HSl : Hid (∀ W, Below W3.heap.size W3 W → Calls Tryd.prog 12 #[.agg #[.string (baL [112]), .slice to 2 tc], .string ⟨#[98]⟩] W fun e w' => e = .returned (.tuple #[.int .i64 1, .bool true]) ∧ Below W.heap.size W w') := by
    intro W hB
    have := tslot_any k9T to tc (baL [98]) W (by decide) (HS3.out.next hB)
    have e1 : placeI k9T.l (baL [98]) = 1 := placeI_at place_k9b
    have e2 : (placeS k9T.l (baL [98])).isSome = true := by show (placeS k9S (baL [98])).isSome = true; rw [place_k9b]; rfl
    rw [e1, e2] at this
    exact this
  obtain ⟨X, HX⟩ : ∃ X, Hid (baL (textT k9T [⟨2, 0, baL [120]⟩, ⟨1, 5, baL []⟩]) = X) := ⟨_, rfl⟩
  have hX : (X.toList == [40, 112, 32, 40, 97, 32, 120, 41, 32, 40, 98, 32, 53, 41, 41]) = true := s_eq HX text_k9
  have HTx : Hid (∀ W fo fc, Below W3.heap.size W3 W → IsVals W fo [⟨2, 0, baL [120]⟩, ⟨1, 5, baL []⟩] → Calls Tryd.prog 13 #[.agg #[.string (baL [112]), .slice to 2 tc], .slice fo 2 fc] W fun e w' => e = .returned (.string X) ∧ Below W.heap.size W w') := by
    intro W fo fc hB hv
    rw [← HX.out]
    exact tmtext_any k9T to tc fo 2 fc _ W rfl rfl (by decide) (by rw [text_k9]; decide) (by
      intro v hv
      simp at hv
      rcases hv with rfl | rfl
      · exact ⟨by decide, by decide⟩
      · exact ⟨by decide, by decide⟩) (HS3.out.next hB) hv (tab_next HT.out (next_trans HB3.out hB))
  obtain ⟨Z, HZ⟩ : ∃ Z, Hid (baL (txtN (tmplNd k9T)) = Z) := ⟨_, rfl⟩
  have hZ : (Z.toList == [40, 100, 101, 102, 116, 101, 109, 112, 108, 97, 116, 101, 32, 112, 32, 40, 115, 108, 111, 116, 32, 97, 41, 32, 40, 115, 108, 111, 116, 32, 98, 32, 40, 100, 101, 102, 97, 117, 108, 116, 32, 53, 41, 41, 41]) = true := s_eq HZ txt_k9
  have HNo : Hid (∀ W, Below W3.heap.size W3 W → Calls Tryd.prog 15 #[.agg #[.string (baL [112]), .slice to 2 tc]] W fun e w' => (∃ A0 n0 c0, e = .returned (.agg #[.int .i64 (0), .int .i64 (0), .int .i64 (0), .string (⟨#[]⟩), .slice A0 n0 c0]) ∧ ∀ w2, Below w'.heap.size w' w2 → Calls Tryd.prog 14 #[.agg #[.int .i64 (0), .int .i64 (0), .int .i64 (0), .string (⟨#[]⟩), .slice A0 n0 c0]] w2 fun e w3 => e = .returned (.string Z) ∧ Below w2.heap.size w2 w3) ∧ Below W.heap.size W w') := by
    intro W hB
    refine (tnode_any k9T to tc W (by decide) (HS3.out.next hB)).mono ?_
    rintro e w' ⟨⟨c, rfl, hc⟩, hb⟩
    obtain ⟨h1, h2, h3⟩ := nodeV_of hc
    refine ⟨⟨c.ao, (tmplNd k9T).l.length, c.cap, by rw [h1]; rfl, fun w2 hw2 => ?_⟩, hb⟩
    rw [← HZ.out]
    exact text_any5 (tmplNd k9T) c.ao c.cap w2 wf_k9 (tab_next HT.out (next_trans (next_trans (next_trans HB3.out hB) hb) hw2)) (by have := cnt_k9; omega) (by rw [txt_k9]; decide) h2 (h3.next hw2)
  have HSm : Hid (∀ W, Below W3.heap.size W3 W → Calls Tryd.prog 16 #[.agg #[.string (baL [112]), .slice to 2 tc], .agg #[.string (baL [112]), .slice to 2 tc]] W fun e w' => e = .returned (.bool true) ∧ Below W.heap.size W w') := fun W hB => tsame_any k9T to to tc tc W (by decide) (HS3.out.next hB) (HS3.out.next hB)
  have HXn : Hid (∀ W, Below W3.heap.size W3 W → W.cell? ⟨TB, 0, none⟩ = some (.string (baL [112])) ∧ W.cell? ⟨TB, 1, none⟩ = some (.slice to 2 tc)) := fun W hB => ⟨(HX3.out.next hB).cell 0, (HX3.out.next hB).cell 1⟩
  have t0 : W3.cell? ⟨TB, 0, none⟩ = some (.string (baL [112])) := HX3.out.cell 0
  have t1 : W3.cell? ⟨TB, 1, none⟩ = some (.slice to 2 tc) := HX3.out.cell 1
  go_wp2_with fail
  rw [HW3.out, HTB.out]
  clear HW3 HTB HX HZ
  go_region_held3 (fun w' => w'.cell? ⟨TB, 0, none⟩ = some (.string (baL [112])) ∧ w'.cell? ⟨TB, 1, none⟩ = some (.slice to 2 tc))
    (((try dsimp only); go_split_ands; refine ⟨?_, ?_⟩ <;> first | assumption | exact keep_cell (by assumption) (by assumption) | exact alloc_cell (by assumption)))
    (first
      | (go_at_call 11; refine (rsym_any _ _).mono ?_; rintro e w4 ⟨rfl, hb⟩; have hb4 := hb)
      | (go_at_call 7; refine calls_at (W2 := W3) ?_ (fun hBf => ?_); ((first | exact next_trans (Below.refl _ _) (next_trans (next_trans (alloc_below _ _) (below_undrawn hb4)) (alloc_below _ _)) | exact next_trans (Below.refl _ _) (next_trans (next_trans (below_undrawn hb4) (alloc_below _ _)) (alloc_below _ _)) | (fail "bel"))); refine (HFa.out _ _ _ _ _ hBf ?_ ?_).mono ?_; (refine strs_one ?_; first | exact alloc_cell (keep_cell (below_undrawn hb4) (box0 rfl)) | exact alloc_cell (box0 rfl) | exact box1 rfl | (fail "names")); (refine vals_one ?_ ?_ ?_ <;> first | exact box0 rfl | exact box1 rfl | exact alloc_cell (box0 rfl) | (fail "vals")); rintro e w5 ⟨⟨fo, fc, rfl, hf5⟩, hb⟩; have HB5 : Hid (Below W3.heap.size W3 w5) := next_trans hBf hb; have HV5 : Hid (IsVals w5 fo [⟨2, 0, baL [120]⟩, ⟨1, 5, baL []⟩]) := hf5))
  all_goals
    go_split_ands
    clear hb hb4 hBf hf5
    obtain ⟨t0, t1⟩ := HXn.out w5 HB5.out
    go_wp2_with fail
    refine (HSl.out w5 HB5.out).mono ?_
    rintro e w6 ⟨rfl, hb6⟩
    have HB6 : Hid (Below W3.heap.size W3 w6) := next_trans HB5.out hb6
    have HV6 : Hid (IsVals w6 fo [⟨2, 0, baL [120]⟩, ⟨1, 5, baL []⟩]) := HV5.out.next hb6
    clear hb6 HB5 HV5 t0 t1
    obtain ⟨t0, t1⟩ := HXn.out w6 HB6.out
    go_wp2
    go_region_held3 (fun w' => w'.cell? ⟨TB, 0, none⟩ = some (.string (baL [112])) ∧ w'.cell? ⟨TB, 1, none⟩ = some (.slice to 2 tc))
      (((try dsimp only); go_split_ands; refine ⟨?_, ?_⟩ <;> first | assumption | exact keep_cell (by assumption) (by assumption) | exact alloc_cell (by assumption)))
      (first
        | (go_at_call 11; refine (rsym_any _ _).mono ?_; rintro e w7 ⟨rfl, hb⟩; have hb7 := hb)
        | (go_at_call 7; refine calls_at (W2 := W3) ?_ (fun hBf => ?_); ((first | exact next_trans HB6.out (next_trans (next_trans (alloc_below _ _) (below_undrawn hb7)) (alloc_below _ _)) | exact next_trans HB6.out (next_trans (next_trans (below_undrawn hb7) (alloc_below _ _)) (alloc_below _ _)) | (fail "bel"))); refine (HFc.out _ _ _ _ _ hBf ?_ ?_).mono ?_; (refine strs_one ?_; first | exact alloc_cell (keep_cell (below_undrawn hb7) (box0 rfl)) | exact alloc_cell (box0 rfl) | exact box1 rfl | (fail "names")); (refine vals_one ?_ ?_ ?_ <;> first | exact box0 rfl | exact box1 rfl | exact alloc_cell (box0 rfl) | (fail "vals")); rintro e w8 ⟨rfl, hb⟩; have HB8 : Hid (Below W3.heap.size W3 w8) := next_trans hBf hb; have hb68 := hb))
    all_goals
      go_split_ands
      have HV8 : Hid (IsVals w8 fo [⟨2, 0, baL [120]⟩, ⟨1, 5, baL []⟩]) := by
        refine HV6.out.next ?_
        first
          | exact next_trans (next_trans (next_trans (alloc_below _ _) (below_undrawn hb7)) (alloc_below _ _)) hb68
          | exact next_trans (next_trans (next_trans (below_undrawn hb7) (alloc_below _ _)) (alloc_below _ _)) hb68
      clear hb hb7 hBf hb68 HB6 HV6 t0 t1
      obtain ⟨t0, t1⟩ := HXn.out w8 HB8.out
      go_wp2_with fail
      refine (HTx.out w8 fo fc HB8.out HV8.out).mono ?_
      rintro e w9 ⟨rfl, hb9⟩
      have HB9 : Hid (Below W3.heap.size W3 w9) := next_trans HB8.out hb9
      clear hb9 t0 t1 HB8 HV8
      obtain ⟨t0, t1⟩ := HXn.out w9 HB9.out
      go_wp2_with fail
      refine (HNo.out w9 HB9.out).mono ?_
      rintro e wa ⟨⟨A0, n0, d0, rfl, hta⟩, hba⟩
      have HBa : Hid (Below W3.heap.size W3 wa) := next_trans HB9.out hba
      clear hba t0 t1 HB9
      go_wp2_with fail
      refine (hta wa (Below.refl _ _)).mono ?_
      rintro e wb ⟨rfl, hbb⟩
      have HBb : Hid (Below W3.heap.size W3 wb) := next_trans HBa.out hbb
      clear hbb HBa hta
      obtain ⟨t0, t1⟩ := HXn.out wb HBb.out
      go_wp2_with fail
      refine (HSm.out wb HBb.out).mono ?_
      rintro e wc ⟨rfl, hbc⟩
      have HBc : Hid (Below w.heap.size w wc) := next_trans HB3.out (next_trans HBb.out hbc)
      clear hbc t0 t1 HBb
      go_wp2
      go_ret
      exact ⟨rfl, HBc.out⟩
end Go.Proofs.YtlniifheapoppaaDoor
