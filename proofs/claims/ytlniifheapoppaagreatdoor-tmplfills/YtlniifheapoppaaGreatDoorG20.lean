/- The law's known: a list in a list. -/
import Derived.Deep.RegionHeld3
import Derived.Test.YtlniifheapoppaaGreatDoorG17
import Derived.Test.YtlniifheapoppaaGreatDoorG9
import Derived.Test.YtlniifheapoppaaGreatDoorG8
import Derived.Test.YtlniifheapoppaaGreatDoorG14
import Derived.Test.YtlniifheapoppaaGreatDoorG10
namespace Go.Proofs.YtlniifheapoppaaGreatDoor
open Go.RowKit

theorem read_ok (ao : Option Addr) (n cap : Nat) (l : List UInt8) (L : List Nd) (w : World) (hl : l.length = n) (h : IsB w ao l) (hn : n ≤ 65536) (hc : n ≤ cap) (hm : MaxW w) (hs : readQ l = ⟨L, 0, 0⟩) :
    Calls Tryz.prog 28 #[.slice ao n cap] w fun e w' => (∃ ao cap, e = .returned (.tuple #[.slice ao L.length cap, .nilIface]) ∧ L.length ≤ cap ∧ IsNds w' anyB ao L) ∧ Below w.heap.size w w' := by
  refine (read_any ao n cap l w hl h hn hc hm).mono ?_
  rintro e w1 ⟨hb, hr⟩
  rw [hs] at hr
  rcases hr with ⟨_, ao, cap, h1, h2, h3⟩ | ⟨hx, _⟩
  · exact ⟨⟨ao, cap, h1, h2, h3.any⟩, hb⟩
  · exact absurd rfl hx
theorem read_no (ao : Option Addr) (n cap : Nat) (l : List UInt8) (a : Nat) (f : Int) (w : World) (hl : l.length = n) (h : IsB w ao l) (hn : n ≤ 65536) (hc : n ≤ cap) (hm : MaxW w) (hs : readQ l = ⟨[], a, f⟩) (hf : f ≠ 0) :
    Calls Tryz.prog 28 #[.slice ao n cap] w fun e w' => (∃ B, e = .returned (.tuple #[.slice none 0 0, .iface 104 (.pointer (some ⟨B, 0, none⟩))]) ∧ Chain w' f [([99, 104, 97, 114], (a : Int))] (.iface 104 (.pointer (some ⟨B, 0, none⟩)))) ∧ Below w.heap.size w w' := by
  refine (read_any ao n cap l w hl h hn hc hm).mono ?_
  rintro e w1 ⟨hb, hr⟩
  rw [hs] at hr
  rcases hr with ⟨hx, _⟩ | ⟨_, B, _, h1, h2⟩
  · exact absurd hx hf
  · exact ⟨⟨B, h1, h2.chain⟩, hb⟩
theorem join_nil (w : World) : Calls Tryz.prog 72 #[.slice none 0 0, .string ⟨#[58, 32]⟩] w fun e w' => e = .returned (.string ⟨#[]⟩) ∧ w' = w := by
  go_enter Tryz.func72, Tryz.ntmps72
  go_wp2
  go_ret
  exact ⟨rfl, rfl⟩
set_option maxHeartbeats 4000000 in
theorem told_nil (w : World) : Calls Tryz.prog 41 #[.nilIface] w fun e w' => e = .returned (.string ⟨#[]⟩) ∧ Below w.heap.size w w' := by
  have HJ : Hid (∀ w, Calls Tryz.prog 72 #[.slice none 0 0, .string ⟨#[58, 32]⟩] w fun e w' => e = .returned (.string ⟨#[]⟩) ∧ w' = w) := join_nil
  go_enter Tryz.func41, Tryz.ntmps41
  go_wp2
  go_loopg [0, 3] 0 (fun gk v pv wr => v = .nilIface ∧ pv = .slice none 0 0 ∧ Hid (wr = w))
  case atStart => exact ⟨rfl, rfl, rfl⟩
  case round =>
    obtain ⟨rfl, rfl, HW⟩ := hrel
    go_wp2_with fail
    refine (HJ.out _).mono ?_
    rintro e w2 ⟨rfl, rfl⟩
    go_wp2
    go_ret
    exact ⟨rfl, by rw [HW.out]; exact Below.refl _ _⟩

/-- The two texts. -/
def k5A : List UInt8 := [40, 97, 32, 40, 98, 32, 126, 63, 120, 41, 41, 32, 53]
def k5B : List UInt8 := [40, 97]
def k5N : Nd := ⟨0, 0, 0, [], [⟨2, 1, 0, [97], []⟩, ⟨0, 3, 0, [], [⟨2, 4, 0, [98], []⟩, ⟨8, 6, 0, [], [⟨6, 7, 0, [120], []⟩]⟩]⟩]⟩
def k5I : Nd := ⟨1, 12, 5, [], []⟩
theorem read_k5A : readQ k5A = ⟨[k5N, k5I], 0, 0⟩ := by rfl
theorem read_k5B : readQ k5B = ⟨[], 0, 3⟩ := by rfl
theorem k5_ok : (readQ k5A).e = 0 := by rw [read_k5A]
theorem k5_wf : WfL [k5N, k5I] := by have := (readQ_fl k5A k5_ok).2.1; rw [read_k5A] at this; exact this
theorem k5N_txt : txtN k5N = [40, 97, 32, 40, 98, 32, 126, 63, 120, 41, 41] := by
  unfold k5N
  simp only [txtN_mk, txtB_cons, txtR_cons, txtR_nil, txtB_nil, tokL_sym, tokL_var]
  rfl
theorem itoa_one5 (d : Nat) (h : d < 10) : Lib.itoa (d : Int) = [UInt8.ofNat (48 + d)] := by
  unfold Lib.itoa
  rw [if_neg (by omega), show ((d : Int)).toNat = d by omega, Lib.decDigits_one h]
theorem k5I_txt : txtN k5I = [53] := by
  unfold k5I
  rw [txtN_mk, if_neg (by decide), if_neg (by decide), tokL_int]
  exact itoa_one5 5 (by decide)
theorem k5_lines : linesN [k5N, k5I] = [40, 97, 32, 40, 98, 32, 126, 63, 120, 41, 41, 10, 53, 10] := by
  show txtN k5N ++ 10 :: (txtN k5I ++ 10 :: []) = _
  rw [k5N_txt, k5I_txt]; rfl
theorem k5N_cnt : cntN k5N = 6 := by
  unfold k5N
  simp only [cntN_mk, cntL_cons, cntL_nil]
theorem k5I_cnt : cntN k5I = 1 := by
  unfold k5I
  simp only [cntN_mk, cntL_nil]
theorem k5_told : toldL (wordE 3) [([99, 104, 97, 114], 0)] = [99, 104, 97, 114, 32, 48, 58, 32, 115, 104, 111, 114, 116] := by
  have : Lib.itoa 0 = [48] := itoa_one5 0 (by decide)
  show [99, 104, 97, 114] ++ [32] ++ Lib.itoa 0 ++ [58, 32] ++ wordE 3 = _
  rw [this]; rfl

end Go.Proofs.YtlniifheapoppaaGreatDoor
/- Read, as the laws call it: the program's. -/
namespace Go.Proofs.YtlniifheapoppaaGreatDoor
open Go.RowKit

theorem errI_in {e : Int} (h : errI e) : 1 ≤ e ∧ e ≤ 11 := by rcases h with rfl | rfl | rfl | rfl <;> decide
theorem read_yes5 (ao : Option Addr) (n cap : Nat) (l : List UInt8) (L : List Nd) (w : World) (hl : l.length = n) (h : IsB w ao l) (hn : n ≤ 65536) (hc : n ≤ cap) (hm : MaxW w) (a : Nat) (hs : readQ l = ⟨L, a, 0⟩) :
    Calls Tryz.prog 28 #[.slice ao n cap] w fun e w' => (∃ ao cap, e = .returned (.tuple #[.slice ao L.length cap, .nilIface]) ∧ L.length ≤ cap ∧ IsNds w' anyB ao L) ∧ Below w.heap.size w w' := by
  refine (read_any ao n cap l w hl h hn hc hm).mono ?_
  rintro e w1 ⟨hb, hr⟩
  rw [hs] at hr
  rcases hr with ⟨_, ao, cap, h1, h2, h3⟩ | ⟨hx, _⟩
  · exact ⟨⟨ao, cap, h1, h2, h3.any⟩, hb⟩
  · exact absurd rfl hx
theorem read_no5 (ao : Option Addr) (n cap : Nat) (l : List UInt8) (R : OutN) (w : World) (hl : l.length = n) (h : IsB w ao l) (hn : n ≤ 65536) (hc : n ≤ cap) (hm : MaxW w) (hs : readQ l = R) (hf : R.e ≠ 0) :
    Calls Tryz.prog 28 #[.slice ao n cap] w fun e w' => (∃ B, e = .returned (.tuple #[.slice none 0 0, .iface 104 (.pointer (some ⟨B, 0, none⟩))]) ∧ Chain w' R.e [([99, 104, 97, 114], (R.a : Int))] (.iface 104 (.pointer (some ⟨B, 0, none⟩)))) ∧ Below w.heap.size w w' := by
  refine (read_any ao n cap l w hl h hn hc hm).mono ?_
  rintro e w1 ⟨hb, hr⟩
  rw [hs] at hr
  rcases hr with ⟨hx, _⟩ | ⟨_, B, _, h1, h2⟩
  · exact absurd hx hf
  · exact ⟨⟨B, h1, h2.chain⟩, hb⟩
/-- Read of a string's bytes. -/
theorem read_conv (X : ByteArray) (T : List UInt8) (L : List Nd) (w : World) (N : Nat) (hN : X.size = N) (hX : X = baL T) (hn : T.length ≤ 65536) (hm : MaxW w) (hs : readQ T = ⟨L, 0, 0⟩) :
    Calls Tryz.prog 28 #[.slice (some ⟨w.heap.size, 0, none⟩) N (grownCap w N 0 5)] (Lib.bytesWorld w 5 X) fun e w' => (∃ ao cap, e = .returned (.tuple #[.slice ao L.length cap, .nilIface]) ∧ L.length ≤ cap ∧ IsNds w' anyB ao L) ∧ Below w.heap.size w w' := by
  subst hN
  subst hX
  refine (read_ok (some ⟨w.heap.size, 0, none⟩) (baL T).size _ T L _ rfl (conv_is T w).isB hn (grownCap_ge _ _ _ _) (hm.next (conv_bel _ _)) hs).mono ?_
  rintro e w1 ⟨h1, hb⟩
  exact ⟨h1, next_trans (conv_bel _ _) hb⟩
theorem read_conv_no (X : ByteArray) (T : List UInt8) (a : Nat) (f : Int) (w : World) (N : Nat) (hN : X.size = N) (hX : X = baL T) (hn : T.length ≤ 65536) (hm : MaxW w) (hs : readQ T = ⟨[], a, f⟩) (hf : f ≠ 0) :
    Calls Tryz.prog 28 #[.slice (some ⟨w.heap.size, 0, none⟩) N (grownCap w N 0 5)] (Lib.bytesWorld w 5 X) fun e w' => (∃ B, e = .returned (.tuple #[.slice none 0 0, .iface 104 (.pointer (some ⟨B, 0, none⟩))]) ∧ Chain w' f [([99, 104, 97, 114], (a : Int))] (.iface 104 (.pointer (some ⟨B, 0, none⟩)))) ∧ Below w.heap.size w w' := by
  subst hN
  subst hX
  refine (read_no (some ⟨w.heap.size, 0, none⟩) (baL T).size _ T a f _ rfl (conv_is T w).isB hn (grownCap_ge _ _ _ _) (hm.next (conv_bel _ _)) hs hf).mono ?_
  rintro e w1 ⟨h1, hb⟩
  exact ⟨h1, next_trans (conv_bel _ _) hb⟩
end Go.Proofs.YtlniifheapoppaaGreatDoor
