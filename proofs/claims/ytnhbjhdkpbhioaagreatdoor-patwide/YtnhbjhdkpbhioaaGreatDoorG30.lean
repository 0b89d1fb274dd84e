/- The law's known: its text, what it reads as. -/
import Derived.Deep.RegionHeld3
import Derived.Test.YtnhbjhdkpbhioaaGreatDoorG24
import Derived.Test.YtnhbjhdkpbhioaaGreatDoorG28
import Derived.Test.YtnhbjhdkpbhioaaGreatDoorG10
import Derived.Test.YtnhbjhdkpbhioaaGreatDoorG29
import Derived.Test.YtnhbjhdkpbhioaaGreatDoorG26
import Derived.Test.YtnhbjhdkpbhioaaGreatDoorG27
import Derived.Test.YtnhbjhdkpbhioaaGreatDoorG14
import Derived.Test.YtnhbjhdkpbhioaaGreatDoorG8
namespace Go.Proofs.YtnhbjhdkpbhioaaGreatDoor
open Go.RowKit

def k9A : List UInt8 := [40, 100, 101, 102, 116, 101, 109, 112, 108, 97, 116, 101, 32, 112, 32, 40, 115, 108, 111, 116, 32, 97, 41, 32, 40, 115, 108, 111, 116, 32, 98, 32, 40, 100, 101, 102, 97, 117, 108, 116, 32, 53, 41, 41, 41]
def k9N : Nd := ⟨0, 0, 0, [], [⟨2, 1, 0, wTmpl, []⟩, ⟨2, 13, 0, [112], []⟩, ⟨0, 15, 0, [], [⟨2, 16, 0, wSlot, []⟩, ⟨2, 21, 0, [97], []⟩]⟩, ⟨0, 24, 0, [], [⟨2, 25, 0, wSlot, []⟩, ⟨2, 30, 0, [98], []⟩, ⟨0, 32, 0, [], [⟨2, 33, 0, wDef, []⟩, ⟨1, 41, 5, [], []⟩]⟩]⟩]⟩
theorem read_k9 : readQ k9A = ⟨[k9N], 0, 0⟩ := by rfl
def k9S : List Sl := [⟨baL [97], 2, 0, baL wNil⟩, ⟨baL [98], 1, 5, baL []⟩]
def k9T : Tp := ⟨baL [112], k9S⟩
theorem place_k9a : placeS k9S (baL [97]) = some 0 := by
  refine place_at k9S _ 0 ⟨baL [97], 2, 0, baL wNil⟩ rfl rfl fun m s hm => absurd hm (by omega)
theorem baL_ne {a b : List UInt8} (h : a ≠ b) : baL a ≠ baL b := fun e => h (by rw [← baL_list a, e, baL_list])
theorem place_k9b : placeS k9S (baL [98]) = some 1 := by
  refine place_at k9S _ 1 ⟨baL [98], 1, 5, baL []⟩ rfl rfl fun m s hm hs => ?_
  obtain rfl : m = 0 := by omega
  simp [k9S] at hs
  subst hs
  exact baL_ne (by decide)
theorem place_k9c : placeS k9S (baL [99]) = none := by
  rw [place_none]
  intro s hs
  simp [k9S] at hs
  rcases hs with rfl | rfl
  · exact baL_ne (by decide)
  · exact baL_ne (by decide)
theorem par_k9 : parT k9N = .ok k9T := by
  have hg1 : nameB ⟨2, 13, 0, [112], []⟩ = true := by decide
  have hg2 : nameB ⟨2, 21, 0, [97], []⟩ = true := by decide
  have hg3 : nameB ⟨2, 30, 0, [98], []⟩ = true := by decide
  have h1 : slotN ⟨0, 15, 0, [], [⟨2, 16, 0, wSlot, []⟩, ⟨2, 21, 0, [97], []⟩]⟩ = some ⟨baL [97], 2, 0, baL wNil⟩ := by
    unfold slotN
    rw [if_pos (by rfl)]
    simp only [hg2, if_true]
  have h2 : slotN ⟨0, 24, 0, [], [⟨2, 25, 0, wSlot, []⟩, ⟨2, 30, 0, [98], []⟩, ⟨0, 32, 0, [], [⟨2, 33, 0, wDef, []⟩, ⟨1, 41, 5, [], []⟩]⟩]⟩ = some ⟨baL [98], 1, 5, baL []⟩ := by
    unfold slotN
    rw [if_pos (by rfl)]
    simp only [hg3, if_true]
    rfl
  have r1 : slotR [] ⟨0, 15, 0, [], [⟨2, 16, 0, wSlot, []⟩, ⟨2, 21, 0, [97], []⟩]⟩ = .ok ⟨baL [97], 2, 0, baL wNil⟩ := by
    unfold slotR; rw [h1]; rfl
  have hp : placeS [⟨baL [97], 2, 0, baL wNil⟩] (baL [98]) = none := by
    rw [place_none]
    intro s hs
    simp at hs
    subst hs
    exact baL_ne (by decide)
  have r2 : slotR [⟨baL [97], 2, 0, baL wNil⟩] ⟨0, 24, 0, [], [⟨2, 25, 0, wSlot, []⟩, ⟨2, 30, 0, [98], []⟩, ⟨0, 32, 0, [], [⟨2, 33, 0, wDef, []⟩, ⟨1, 41, 5, [], []⟩]⟩]⟩ = .ok ⟨baL [98], 1, 5, baL []⟩ := by
    unfold slotR; rw [h2]; simp only; rw [hp]; rfl
  have hr : runT [] [⟨0, 15, 0, [], [⟨2, 16, 0, wSlot, []⟩, ⟨2, 21, 0, [97], []⟩]⟩, ⟨0, 24, 0, [], [⟨2, 25, 0, wSlot, []⟩, ⟨2, 30, 0, [98], []⟩, ⟨0, 32, 0, [], [⟨2, 33, 0, wDef, []⟩, ⟨1, 41, 5, [], []⟩]⟩]⟩] = .ok k9S := by
    rw [runT, r1]
    simp only [List.nil_append]
    rw [runT, r2]
    rfl
  unfold parT k9N
  rw [if_pos (by rfl)]
  simp only [hg1, if_true, hr]
  rfl
theorem fill_k9 : fillR k9S [baL [97]] [⟨2, 0, baL [120]⟩] = .ok [⟨2, 0, baL [120]⟩, ⟨1, 5, baL []⟩] := by
  unfold fillR
  rw [if_pos (show [baL _].length = [(⟨2, 0, baL [120]⟩ : Val)].length from rfl)]
  show fillL k9S [] (defsS k9S) [(baL [97], ⟨2, 0, baL [120]⟩)] = _
  rw [fillL, place_k9a]
  rfl
theorem fill_k9c : fillR k9S [baL [99]] [⟨2, 0, baL [120]⟩] = .error 5 := by
  unfold fillR
  rw [if_pos (show [baL _].length = [(⟨2, 0, baL [120]⟩ : Val)].length from rfl)]
  show fillL k9S [] (defsS k9S) [(baL [99], ⟨2, 0, baL [120]⟩)] = _
  rw [fillL, place_k9c]
theorem itoa_one9 (d : Nat) (h : d < 10) : Lib.itoa (d : Int) = [UInt8.ofNat (48 + d)] := by
  unfold Lib.itoa
  rw [if_neg (by omega), show ((d : Int)).toNat = d by omega, Lib.decDigits_one h]
theorem text_k9 : textT k9T [⟨2, 0, baL [120]⟩, ⟨1, 5, baL []⟩] = [40, 112, 32, 40, 97, 32, 120, 41, 32, 40, 98, 32, 53, 41, 41] := by
  have h5 : (textS 1 5 (baL [])).data.toList = [53] := by
    show Lib.itoa 5 = [53]
    exact itoa_one9 5 (by decide)
  have hx : (textS 2 0 (baL [120])).data.toList = [120] := rfl
  unfold textT textP k9T k9S
  simp only [List.zip_cons_cons, List.zip_nil_right, List.map_cons, List.map_nil, List.flatten_cons, List.flatten_nil, partS, h5, hx]
  rfl
theorem txt_k9 : txtN (tmplNd k9T) = k9A := by
  have h5 : txtN ⟨1, 0, 5, [], []⟩ = [53] := by
    rw [txtN_mk, if_neg (by decide), if_neg (by decide), tokL_int]
    exact itoa_one9 5 (by decide)
  have hn1 : nilS ⟨baL [97], 2, 0, baL wNil⟩ = true := by unfold nilS; exact sameB_refl _ _ _
  have hn2 : nilS ⟨baL [98], 1, 5, baL []⟩ = false := by unfold nilS; exact sameB_no (by rintro ⟨h, _⟩; cases h)
  have e : tmplNd k9T = ⟨0, 0, 0, [], [⟨2, 0, 0, wTmpl, []⟩, ⟨2, 0, 0, [112], []⟩, ⟨0, 0, 0, [], [⟨2, 0, 0, wSlot, []⟩, ⟨2, 0, 0, [97], []⟩]⟩, ⟨0, 0, 0, [], [⟨2, 0, 0, wSlot, []⟩, ⟨2, 0, 0, [98], []⟩, ⟨0, 0, 0, [], [⟨2, 0, 0, wDef, []⟩, ⟨1, 0, 5, [], []⟩]⟩]⟩]⟩ := by
    unfold tmplNd k9T k9S slotNd
    simp only [List.map_cons, List.map_nil, hn1, hn2, if_true, Bool.false_eq_true, if_false]
    rfl
  rw [e]
  simp only [txtN_mk, txtB_cons, txtR_cons, txtR_nil, txtB_nil, tokL_sym]
  rw [show (if (1 : Int) = 0 then 40 :: (([] : List UInt8) ++ [41]) else if (1 : Int) = 8 then 126 :: [] else tokL 1 5 []) = [53] from by rw [if_neg (by decide), if_neg (by decide), tokL_int]; exact itoa_one9 5 (by decide)]
  rfl
end Go.Proofs.YtnhbjhdkpbhioaaGreatDoor
/- The law's known: a template of two slots. -/
namespace Go.Proofs.YtnhbjhdkpbhioaaGreatDoor
open Go.RowKit

theorem read_ok9 (ao : Option Addr) (n cap : Nat) (l : List UInt8) (L : List Nd) (a : Nat) (w : World) (hl : l.length = n) (h : IsB w ao l) (hn : n ≤ 65536) (hc : n ≤ cap) (hm : MaxW w) (hs : readQ l = ⟨L, a, 0⟩) :
    Calls Tryz.prog 36 #[.slice ao n cap] w fun e w' => (∃ ao cap, e = .returned (.tuple #[.slice ao L.length cap, .nilIface]) ∧ L.length ≤ cap ∧ IsNds w' anyB ao L) ∧ Below w.heap.size w w' := by
  refine (read_any ao n cap l w hl h hn hc hm).mono ?_
  rintro e w1 ⟨hb, hr⟩
  rw [hs] at hr
  rcases hr with ⟨_, ao, cap, h1, h2, h3⟩ | ⟨hx, _⟩
  · exact ⟨⟨ao, cap, h1, h2, h3.any⟩, hb⟩
  · exact absurd rfl hx
theorem nodeV_of {w : World} {S : Nat → Prop} {c : Nc} {x : Nd} (h : NcIs w S c x) : nodeV c = ndV x c.ao c.cap ∧ x.l.length ≤ c.cap ∧ IsNds w anyB c.ao x.l := by
  obtain ⟨ck, ca, ci, cs, cao, cn, ccap⟩ := c
  obtain ⟨h1, h2, h3, h4, h5, h6, h7⟩ := h
  simp only at h1 h2 h3 h4 h5 h6 h7
  subst h1 h2 h3 h4 h5
  exact ⟨rfl, h6, h7.any⟩
theorem calls_at {K : Nat} {args : Array Value} {W2 W : World} {Q : Ending → World → Prop} (hB : Below W2.heap.size W2 W) (h : Below W2.heap.size W2 W → Calls Tryz.prog K args W Q) : Calls Tryz.prog K args W Q := h hB
theorem strs_one {w : World} {b : Nat} {s : ByteArray} (h : w.cell? ⟨b, 0, none⟩ = some (.string s)) : StrsA w (some ⟨b, 0, none⟩) [s] := fun j x hj => by
  cases j with
  | zero => simp at hj; subst hj; exact ⟨b, 0, rfl, h⟩
  | succ j => simp at hj
theorem vals_one {w : World} {b : Nat} {k i : Int} {s : ByteArray} (h0 : w.cell? ⟨b, 0, none⟩ = some (.int .i64 k)) (h1 : w.cell? ⟨b, 1, none⟩ = some (.int .i64 i)) (h2 : w.cell? ⟨b, 2, none⟩ = some (.string s)) : IsVals w (some ⟨b, 0, none⟩) [⟨k, i, s⟩] := fun j x hj => by
  cases j with
  | zero => simp at hj; subst hj; exact ⟨b, 0, rfl, h0, h1, h2⟩
  | succ j => simp at hj
theorem wf_sym9 (a : Nat) {s : List UInt8} (h : WfT 2 0 s) : WfN ⟨2, a, 0, s, []⟩ := by rw [WfN_mk]; exact .inr (.inr ⟨⟨h, rfl⟩, rfl⟩)
theorem wf_k9 : WfN (tmplNd k9T) := by
  have hs : ∀ s : List UInt8, s.length ≤ 40 → 1 ≤ s.length → s.all signB = true → shapeL s = false → WfT 2 0 s := fun s h1 h2 h3 h4 => .inr (.inl ⟨rfl, rfl, h2, h1, h3, h4⟩)
  have hn1 : nilS ⟨baL [97], 2, 0, baL wNil⟩ = true := by unfold nilS; exact sameB_refl _ _ _
  have hn2 : nilS ⟨baL [98], 1, 5, baL []⟩ = false := by unfold nilS; exact sameB_no (by rintro ⟨h, _⟩; cases h)
  have e : tmplNd k9T = ⟨0, 0, 0, [], [⟨2, 0, 0, wTmpl, []⟩, ⟨2, 0, 0, [112], []⟩, ⟨0, 0, 0, [], [⟨2, 0, 0, wSlot, []⟩, ⟨2, 0, 0, [97], []⟩]⟩, ⟨0, 0, 0, [], [⟨2, 0, 0, wSlot, []⟩, ⟨2, 0, 0, [98], []⟩, ⟨0, 0, 0, [], [⟨2, 0, 0, wDef, []⟩, ⟨1, 0, 5, [], []⟩]⟩]⟩]⟩ := by
    unfold tmplNd k9T k9S slotNd
    simp only [List.map_cons, List.map_nil, hn1, hn2, if_true, Bool.false_eq_true, if_false]
    rfl
  have hl : ∀ {l : List Nd}, WfL l → WfN ⟨0, 0, 0, [], l⟩ := fun h => by rw [WfN_mk]; exact .inl ⟨rfl, rfl, rfl, h⟩
  have hi : WfN ⟨1, 0, 5, [], []⟩ := by rw [WfN_mk]; exact .inr (.inr ⟨⟨.inl ⟨rfl, by decide, rfl⟩, rfl⟩, rfl⟩)
  rw [e]
  refine hl ?_
  rw [WfL_cons, WfL_cons, WfL_cons, WfL_cons]
  refine ⟨wf_sym9 0 (hs _ (by decide) (by decide) (by decide) (by decide)), wf_sym9 0 (hs _ (by decide) (by decide) (by decide) (by decide)), hl ?_, hl ?_, WfL_nil⟩
  · rw [WfL_cons, WfL_cons]
    exact ⟨wf_sym9 0 (hs _ (by decide) (by decide) (by decide) (by decide)), wf_sym9 0 (hs _ (by decide) (by decide) (by decide) (by decide)), WfL_nil⟩
  · rw [WfL_cons, WfL_cons, WfL_cons]
    refine ⟨wf_sym9 0 (hs _ (by decide) (by decide) (by decide) (by decide)), wf_sym9 0 (hs _ (by decide) (by decide) (by decide) (by decide)), hl ?_, WfL_nil⟩
    rw [WfL_cons, WfL_cons]
    exact ⟨wf_sym9 0 (hs _ (by decide) (by decide) (by decide) (by decide)), hi, WfL_nil⟩
theorem cnt_k9 : cntN (tmplNd k9T) ≤ 20 := by
  have hn1 : nilS ⟨baL [97], 2, 0, baL wNil⟩ = true := by unfold nilS; exact sameB_refl _ _ _
  have hn2 : nilS ⟨baL [98], 1, 5, baL []⟩ = false := by unfold nilS; exact sameB_no (by rintro ⟨h, _⟩; cases h)
  unfold tmplNd k9T k9S slotNd
  simp only [List.map_cons, List.map_nil, hn1, hn2, if_true, Bool.false_eq_true, if_false, cntN_mk, cntL_cons, cntL_nil, tsym, defNd, valNd]
  omega

end Go.Proofs.YtnhbjhdkpbhioaaGreatDoor
