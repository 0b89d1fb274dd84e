import Derived.Deep.QuietTactic
import Derived.BigQuiet
import Derived.Deep.RegionWith
import Derived.Test.YtnhbjhdkpbhioaaGreatDoorG23
import Derived.Test.YtnhbjhdkpbhioaaGreatDoorG24
import Derived.Test.YtnhbjhdkpbhioaaGreatDoorG11
namespace Go.Proofs.YtnhbjhdkpbhioaaGreatDoor
open Go.RowKit
def rplaceI (l : List Sl) (n : ByteArray) : Int := match placeS l n with
  | some p => (p : Int)
  | none => -1
set_option maxHeartbeats 2000000 in
set_option maxRecDepth 8000 in
theorem rtslot_any (t : Tp) (ao : Option Addr) (cap : Nat) (n : ByteArray) (w : World) (hN : t.l.length ≤ 1000) (h : IsSls w ao t.l) :
    Calls Tryz.prog 49 #[tmV t ao cap, .string n] w fun e w' => e = .returned (.int .i64 (rplaceI t.l n)) ∧ Below w.heap.size w w' := by
  unfold tmV
  obtain ⟨tn, l⟩ := t
  simp only at hN h ⊢
  obtain ⟨N, HN⟩ : ∃ N, Hid (l.length = N) := ⟨_, rfl⟩
  obtain ⟨P, HP⟩ : ∃ P, Hid (rplaceI l n = P) := ⟨_, rfl⟩
  rw [HN.out, HP.out]
  rw [HN.out] at hN
  have HI : Hid (IsSls w ao l) := h
  clear h
  go_enter Tryz.func49, Tryz.ntmps49
  go_wp2
  obtain ⟨W0, hW0⟩ : ∃ W0, w.alloc (.cells #[.string tn, .slice ao N cap] 112) = W0 := ⟨_, rfl⟩
  have HB0 : Hid (Below w.heap.size w W0) := by rw [← hW0]; exact alloc_below _ _
  have HX0 : Hid (Bx W0 w.heap.size #[.string tn, .slice ao N cap]) := Bx.made' hW0 rfl
  rw [hW0]
  clear hW0
  go_loopw [5] (fun q wr => ∃ k : Nat, k ≤ N ∧ q = .int .i64 k ∧ Hid (Below w.heap.size w wr) ∧ Hid (Bx wr w.heap.size #[.string tn, .slice ao N cap]) ∧ Hid (∀ m s, m < k → l[m]? = some s → s.n ≠ n)) (fun q _ => N - (intOf q).toNat)
  case atStart => exact ⟨0, Nat.zero_le _, rfl, HB0, HX0, fun m s hm => absurd hm (by omega)⟩
  case round =>
    obtain ⟨k, hk, rfl, HB, HX, HM⟩ := hrel
    clear HB0 HX0
    have x1 : wr.cell? ⟨w.heap.size, 1, none⟩ = some (.slice ao N cap) := HX.out.cell 1
    by_cases hlt : k < N
    · have hki : (k : Int) < (N : Int) := by omega
      have hk0 : (0 : Int) ≤ (k : Int) := by omega
      obtain ⟨s, hs⟩ : ∃ s, l[k]? = some s := ⟨_, List.getElem?_eq_getElem (by rw [HN.out]; exact hlt)⟩
      obtain ⟨b, o, rfl, c0, c1, c2, c3⟩ := (HI.out.next HB.out) k s hs
      have HS : Hid (l[k]? = some s) := hs
      obtain ⟨sn, sk, si, ss⟩ := s
      simp only at c0 c1 c2 c3
      clear hs
      by_cases he : sn = n
      · have hd : (sn.toList == n.toList) = true := by rw [beq_ba]; exact decide_eq_true he
        have hq : placeS l n = some k := place_at l n k _ HS.out he HM.out
        obtain rfl : P = (k : Int) := by rw [← HP.out]; unfold rplaceI; rw [hq]
        clear HM HS he hq HP HI
        go_wp2
        go_ret
        exact ⟨rfl, HB.out⟩
      · have hd : (sn.toList == n.toList) = false := by rw [beq_ba]; exact decide_eq_false he
        have HM2 : Hid (∀ m s, m < k + 1 → l[m]? = some s → s.n ≠ n) := fun m s hm hms => by
          by_cases e : m = k
          · subst e; rw [HS.out] at hms; cases hms; exact he
          · exact HM.out m s (by omega) hms
        clear HM HS he
        go_wp2
        go_roundw
        case rel => exact ⟨k + 1, by omega, by go_num, HB, HX, HM2⟩
        case measure => simp [intOf]; omega
    · have hki : ¬ (k : Int) < (N : Int) := by omega
      have hq : placeS l n = none := (place_none l n).2 fun s hs => by
        obtain ⟨m, hm⟩ := List.getElem?_of_mem hs
        exact HM.out m s (by have := (List.getElem?_eq_some_iff.1 hm).1; rw [HN.out] at this; omega) hm
      obtain rfl : P = -1 := by rw [← HP.out]; unfold rplaceI; rw [hq]
      clear HM hq HP HI
      go_wp2
      go_ret
      exact ⟨rfl, HB.out⟩
end Go.Proofs.YtnhbjhdkpbhioaaGreatDoor
namespace Go.Proofs.YtnhbjhdkpbhioaaGreatDoor
open Go.RowKit
structure TrW (w wr : World) (K A I : Int) (Y : ByteArray) (ao : Option Addr) (M cap : Nat) : Prop where
  bel : Below w.heap.size w wr
  n : Bx wr w.heap.size #[.int .i64 K, .int .i64 A, .int .i64 I, .string Y, .slice ao M cap]
  r : Bx wr (w.heap.size + 1) #[.string ⟨#[]⟩, .slice none 0 0]
  g : Bx wr (w.heap.size + 2) #[.slice none 0 0, .int .i64 0]
  z : Bx wr (w.heap.size + 3) #[.string ⟨#[]⟩, .slice none 0 0]
theorem TrW.next {w wr w' : World} {K A I : Int} {Y : ByteArray} {ao : Option Addr} {M cap : Nat} (h : TrW w wr K A I Y ao M cap) (hb : Below wr.heap.size wr w') : TrW w w' K A I Y ao M cap :=
  ⟨next_trans h.bel hb, h.n.next hb, h.r.next hb, h.g.next hb, h.z.next hb⟩
theorem PtAt.set {w : World} {b k j : Nat} {a : Int} {u : Value} (h : PtAt w b a) (hn : b ≠ k) : PtAt (w.setCell ⟨k, j, none⟩ u) b a := h.keep (Below.heap_setCell _ _ _ _ hn)
end Go.Proofs.YtnhbjhdkpbhioaaGreatDoor
