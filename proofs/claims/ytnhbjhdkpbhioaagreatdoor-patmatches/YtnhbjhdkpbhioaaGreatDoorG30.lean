import Derived.Deep.RegionHeld3
import Derived.Test.YtnhbjhdkpbhioaaGreatDoorG24
import Derived.Laws.MakeOwn
import Derived.Deep.OwnRows
import Derived.Test.YtnhbjhdkpbhioaaGreatDoorG23
import Derived.Test.YtnhbjhdkpbhioaaGreatDoorG10
import Derived.Test.YtnhbjhdkpbhioaaGreatDoorG29
import Derived.Test.YtnhbjhdkpbhioaaGreatDoorG26
import Derived.Test.YtnhbjhdkpbhioaaGreatDoorG27
import Derived.Test.YtnhbjhdkpbhioaaGreatDoorG14
import Derived.Test.YtnhbjhdkpbhioaaGreatDoorG8
namespace Go.Proofs.YtnhbjhdkpbhioaaGreatDoor
open Go.RowKit
theorem baL_ne {a b : List UInt8} (h : a ≠ b) : baL a ≠ baL b := fun e => h (by rw [← baL_list a, e, baL_list])
theorem itoa_one9 (d : Nat) (h : d < 10) : Lib.itoa (d : Int) = [UInt8.ofNat (48 + d)] := by
  unfold Lib.itoa
  rw [if_neg (by omega), show ((d : Int)).toNat = d by omega, Lib.decDigits_one h]
end Go.Proofs.YtnhbjhdkpbhioaaGreatDoor
namespace Go.Proofs.YtnhbjhdkpbhioaaGreatDoor
open Go.RowKit
theorem read_ok9 (ao : Option Addr) (n cap : Nat) (l : List UInt8) (L : List Nd) (a : Nat) (w : World) (hl : l.length = n) (h : IsB w ao l) (hn : n ≤ 65536) (hc : n ≤ cap) (hm : MaxW w) (hs : readQ l = ⟨L, a, 0⟩) :
    Calls Tryz.prog 36 #[.slice ao n cap] w fun e w' => (∃ ao cap, e = .returned (.tuple #[.slice ao L.length cap, .nilIface]) ∧ L.length ≤ cap ∧ IsNds w' anyB ao L) ∧ Below w.heap.size w w' := by
  refine (read_any ao n cap l w hl h hn hc hm).mono ?_
  rintro e w1 ⟨hb, hr⟩
  rw [hs] at hr
  rcases hr with ⟨_, ao, cap, h1, h2, h3⟩ | ⟨hx, _⟩
  · exact ⟨⟨ao, cap, h1, h2, h3.any⟩, hb⟩
  · exact absurd rfl hx
theorem nodeV_of {w : World} {S : Nat → Prop} {c : Nc} {x : Nd} (h : NcIs w S c x) : nodeV c = ndV x c.ao c.cap ∧ x.l.length ≤ c.cap ∧ IsNds w anyB c.ao x.l := by
  obtain ⟨ck, ca, ci, cs, cao, cn, ccap⟩ := c
  obtain ⟨h1, h2, h3, h4, h5, h6, h7⟩ := h
  simp only at h1 h2 h3 h4 h5 h6 h7
  subst h1 h2 h3 h4 h5
  exact ⟨rfl, h6, h7.any⟩
theorem wf_sym9 (a : Nat) {s : List UInt8} (h : WfT 2 0 s) : WfN ⟨2, a, 0, s, []⟩ := by rw [WfN_mk]; exact .inr (.inr ⟨⟨h, rfl⟩, rfl⟩)
end Go.Proofs.YtnhbjhdkpbhioaaGreatDoor
