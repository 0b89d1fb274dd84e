import Derived.Laws.OwnMore
import Derived.Laws.AppendOwn
import Derived.Test.YtnhbjhdkpbhioaaGreatDoorG14
import Derived.Test.YtnhbjhdkpbhioaaGreatDoorG2
import Derived.Test.YtnhbjhdkpbhioaaGreatDoorG9
import Derived.Test.YtnhbjhdkpbhioaaGreatDoorG3
import Derived.Test.YtnhbjhdkpbhioaaGreatDoorG13
import Derived.Test.YtnhbjhdkpbhioaaGreatDoorG5
namespace Go.Proofs.YtnhbjhdkpbhioaaGreatDoor
open Go.RowKit
def wNil : List UInt8 := [110, 105, 108]
structure Sl where
  n : ByteArray
  k : Int
  i : Int
  s : ByteArray
structure Tp where
  n : ByteArray
  l : List Sl
def placeS : List Sl → ByteArray → Option Nat
  | [], _ => none
  | s :: r, n => if s.n = n then some 0 else (placeS r n).map (· + 1)
def tsym (s : List UInt8) : Nd := ⟨2, 0, 0, s, []⟩
theorem ba_self (s : ByteArray) : baL s.data.toList = s := ByteArray.ext (by show s.data.toList.toArray = s.data; simp)
theorem place_none : ∀ (l : List Sl) (n : ByteArray), placeS l n = none ↔ ∀ s ∈ l, s.n ≠ n
  | [], n => by simp [placeS]
  | s :: r, n => by
    unfold placeS
    by_cases h : s.n = n
    · rw [if_pos h]; simp [h]
    · rw [if_neg h, Option.map_eq_none_iff, place_none r n]; simp [h]
theorem place_some : ∀ (l : List Sl) (n : ByteArray) (p : Nat), placeS l n = some p → ∃ s, l[p]? = some s ∧ s.n = n ∧ ∀ m s', m < p → l[m]? = some s' → s'.n ≠ n
  | [], n, p, h => by simp [placeS] at h
  | s :: r, n, p, h => by
    unfold placeS at h
    by_cases e : s.n = n
    · rw [if_pos e] at h
      cases h
      exact ⟨s, rfl, e, fun m s' hm => absurd hm (by omega)⟩
    · rw [if_neg e] at h
      obtain ⟨q, hq, rfl⟩ := Option.map_eq_some_iff.1 h
      obtain ⟨s', h1, h2, h3⟩ := place_some r n q hq
      refine ⟨s', h1, h2, fun m t hm ht => ?_⟩
      cases m with
      | zero => simp at ht; subst ht; exact e
      | succ m => exact h3 m t (by omega) (by simpa using ht)
theorem place_at : ∀ (l : List Sl) (n : ByteArray) (p : Nat) (s : Sl), l[p]? = some s → s.n = n → (∀ m s', m < p → l[m]? = some s' → s'.n ≠ n) → placeS l n = some p
  | [], n, p, s, h, _, _ => by simp at h
  | x :: r, n, 0, s, h, e, _ => by simp at h; subst h; unfold placeS; rw [if_pos e]
  | x :: r, n, p + 1, s, h, e, hb => by
    unfold placeS
    rw [if_neg (hb 0 x (by omega) rfl), place_at r n p s (by simpa using h) e (fun m s' hm hs => hb (m + 1) s' (by omega) (by simpa using hs))]; rfl
theorem place_lt {l : List Sl} {n : ByteArray} {p : Nat} (h : placeS l n = some p) : p < l.length := by
  obtain ⟨s, h1, _⟩ := place_some l n p h
  exact (List.getElem?_eq_some_iff.1 h1).1
end Go.Proofs.YtnhbjhdkpbhioaaGreatDoor
namespace Go.Proofs.YtnhbjhdkpbhioaaGreatDoor
open Go.RowKit
def IsVals (w : World) (ao : Option Addr) (L : List Val) : Prop :=
  ∀ (j : Nat) (v : Val), L[j]? = some v → ∃ b o, ao = some ⟨b, o, none⟩ ∧ w.cell? ⟨b, o + j * 3, none⟩ = some (.int .i64 v.k) ∧ w.cell? ⟨b, o + j * 3 + 1, none⟩ = some (.int .i64 v.i) ∧ w.cell? ⟨b, o + j * 3 + 2, none⟩ = some (.string v.s)
theorem IsVals.next {w w' : World} {ao : Option Addr} {L : List Val} (h : IsVals w ao L) (hb : Below w.heap.size w w') : IsVals w' ao L := by
  intro j v hj
  obtain ⟨b, o, h0, h1, h2, h3⟩ := h j v hj
  exact ⟨b, o, h0, keep_cell hb h1, keep_cell hb h2, keep_cell hb h3⟩
theorem IsVals.nil (w : World) (ao : Option Addr) : IsVals w ao [] := fun j v hj => by simp at hj
def StrsA (w : World) (ao : Option Addr) (L : List ByteArray) : Prop :=
  ∀ (j : Nat) (s : ByteArray), L[j]? = some s → ∃ b o, ao = some ⟨b, o, none⟩ ∧ w.cell? ⟨b, o + j, none⟩ = some (.string s)
theorem StrsA.next {w w' : World} {ao : Option Addr} {L : List ByteArray} (h : StrsA w ao L) (hb : Below w.heap.size w w') : StrsA w' ao L := by
  intro j v hj
  obtain ⟨b, o, h0, h1⟩ := h j v hj
  exact ⟨b, o, h0, keep_cell hb h1⟩
theorem StrsA.nil (w : World) (ao : Option Addr) : StrsA w ao [] := fun j v hj => by simp at hj
def IsSls (w : World) (ao : Option Addr) (L : List Sl) : Prop :=
  ∀ (j : Nat) (s : Sl), L[j]? = some s → ∃ b o, ao = some ⟨b, o, none⟩ ∧ w.cell? ⟨b, o + j * 4, none⟩ = some (.string s.n) ∧ w.cell? ⟨b, o + j * 4 + 1, none⟩ = some (.int .i64 s.k) ∧ w.cell? ⟨b, o + j * 4 + 2, none⟩ = some (.int .i64 s.i) ∧ w.cell? ⟨b, o + j * 4 + 3, none⟩ = some (.string s.s)
theorem IsSls.next {w w' : World} {ao : Option Addr} {L : List Sl} (h : IsSls w ao L) (hb : Below w.heap.size w w') : IsSls w' ao L := by
  intro j v hj
  obtain ⟨b, o, h0, h1, h2, h3, h4⟩ := h j v hj
  exact ⟨b, o, h0, keep_cell hb h1, keep_cell hb h2, keep_cell hb h3, keep_cell hb h4⟩
theorem IsSls.nil (w : World) (ao : Option Addr) : IsSls w ao [] := fun j v hj => by simp at hj
def sC (s : Sl) : List Value := [.string s.n, .int .i64 s.k, .int .i64 s.i, .string s.s]
def slsC (L : List Sl) : List Value := L.flatMap sC
theorem slsC_cons (s : Sl) (L : List Sl) : slsC (s :: L) = sC s ++ slsC L := by unfold slsC; rw [List.flatMap_cons]
theorem slsC_snoc (L : List Sl) (s : Sl) : slsC L ++ sC s = slsC (L ++ [s]) := by unfold slsC; rw [List.flatMap_append]; simp
theorem slsC_len (L : List Sl) : (slsC L).length = L.length * 4 := by
  induction L with
  | nil => rfl
  | cons v L ih => rw [slsC_cons, List.length_append, ih, List.length_cons]; show 4 + _ = _; omega
theorem sls_at : ∀ (L : List Sl) (j q : Nat) (t : Sl), L[j]? = some t → q < 4 → (slsC L)[j * 4 + q]? = (sC t)[q]?
  | [], j, q, t, h, _ => by simp at h
  | x :: r, 0, q, t, h, hq => by
    simp at h
    subst h
    have hl : (sC x).length = 4 := rfl
    rw [Nat.zero_mul, Nat.zero_add, slsC_cons, List.getElem?_append_left (by omega)]
  | x :: r, j + 1, q, t, h, hq => by
    rw [List.getElem?_cons_succ] at h
    have hl : (sC x).length = 4 := rfl
    rw [slsC_cons, List.getElem?_append_right (by omega), hl, show (j + 1) * 4 + q - 4 = j * 4 + q by omega]
    exact sls_at r j q t h hq
theorem own_sls {w : World} {B T : Nat} {v : Value} {L : List Sl} {n : Nat} (hn : L.length = n) (h : w.ownsRow B T 4 v n (slsC L)) : ∃ ao cap, v = .slice ao n cap ∧ IsSls w ao L ∧ n ≤ cap := by
  subst hn
  rcases h.2 with ⟨rfl, h0⟩ | ⟨g, cap, cur, rfl, _, _, hn, _⟩
  · refine ⟨none, 0, by rw [h0], ?_, by omega⟩
    have e : L = [] := List.eq_nil_of_length_eq_zero h0
    subst e
    intro j t hj; simp at hj
  · refine ⟨_, cap, rfl, fun j t hj => ⟨g, 0, rfl, ?_⟩, hn⟩
    have hjl : j < L.length := (List.getElem?_eq_some_iff.1 hj).1
    have hc : ∀ q, q < 4 → w.cell? ⟨g, j * 4 + q, none⟩ = (sC t)[q]? := fun q hq => by
      rw [h.cellAt (j * 4 + q) (by omega), sls_at L j q t hj hq]
    rw [Nat.zero_add]
    exact ⟨hc 0 (by omega), hc 1 (by omega), hc 2 (by omega), hc 3 (by omega)⟩
def zeroSl : Value := .agg #[.string ⟨#[]⟩, .int .i64 0, .int .i64 0, .string ⟨#[]⟩]
theorem infoSl : (Tryz.prog.info? 143).map (fun i => (i.zero, i.size, i.bytes)) = some (some zeroSl, 4, 48) := by kernel_rfl
theorem infoSl' : ∃ i, Tryz.prog.info? 143 = some i ∧ i.zero = some zeroSl ∧ i.size = 4 ∧ i.bytes = 48 := by
  obtain ⟨i, h, e⟩ := Option.map_eq_some_iff.1 infoSl
  simp only [Prod.mk.injEq] at e
  exact ⟨i, h, e.1, e.2.1, e.2.2⟩
def tmV (t : Tp) (ao : Option Addr) (cap : Nat) : Value := .agg #[.string t.n, .slice ao t.l.length cap]
end Go.Proofs.YtnhbjhdkpbhioaaGreatDoor
namespace Go.Proofs.YtnhbjhdkpbhioaaGreatDoor
open Go.RowKit
theorem nd_open (x : Nd) (ao : Option Addr) (cap : Nat) : ∃ (K A I : Int) (Y : ByteArray) (M : Nat), Hid (ndV x ao cap = .agg #[.int .i64 (K), .int .i64 (A), .int .i64 (I), .string (Y), .slice ao M cap]) ∧ Hid (x.k = K ∧ (x.a : Int) = A ∧ x.i = I ∧ baL x.s = Y ∧ x.l.length = M) :=
  ⟨_, _, _, _, _, rfl, rfl, rfl, rfl, rfl, rfl⟩
structure KidW (w : World) (b o : Nat) (K A I : Int) (Y : ByteArray) (ao : Option Addr) (M cap : Nat) : Prop where
  c0 : w.cell? ⟨b, o, none⟩ = some (.int .i64 K)
  c1 : w.cell? ⟨b, o + 1, none⟩ = some (.int .i64 A)
  c2 : w.cell? ⟨b, o + 2, none⟩ = some (.int .i64 I)
  c3 : w.cell? ⟨b, o + 3, none⟩ = some (.string Y)
  c4 : w.cell? ⟨b, o + 4, none⟩ = some (.slice ao M cap)
theorem KidW.next {w w' : World} {b o : Nat} {K A I : Int} {Y : ByteArray} {ao : Option Addr} {M cap : Nat} (h : KidW w b o K A I Y ao M cap) (hb : Below w.heap.size w w') : KidW w' b o K A I Y ao M cap :=
  ⟨keep_cell hb h.c0, keep_cell hb h.c1, keep_cell hb h.c2, keep_cell hb h.c3, keep_cell hb h.c4⟩
theorem kid_get {w : World} {ao : Option Addr} {l : List Nd} {j : Nat} {x : Nd} (h : IsNds w anyB ao l) (hj : l[j]? = some x) :
    ∃ (b o : Nat) (ao' : Option Addr) (cap' : Nat) (K A I : Int) (Y : ByteArray) (M : Nat), ao = some ⟨b, o, none⟩ ∧ Hid (ndV x ao' cap' = .agg #[.int .i64 (K), .int .i64 (A), .int .i64 (I), .string (Y), .slice ao' M cap']) ∧ Hid (x.k = K ∧ (x.a : Int) = A ∧ x.i = I ∧ baL x.s = Y ∧ x.l.length = M) ∧
      KidW w b (o + j * 5) K A I Y ao' M cap' ∧ Hid (x.l.length ≤ cap' ∧ IsNds w anyB ao' x.l) := by
  obtain ⟨b, o, ao', cap', h1, h2⟩ := h.at hj
  exact ⟨b, o, ao', cap', _, _, _, _, _, h1, rfl, ⟨rfl, rfl, rfl, rfl, rfl⟩, ⟨h2.c0, h2.c1, h2.c2, h2.c3, h2.c4⟩, h2.hc, h2.kids⟩
def Bx (w : World) (b : Nat) (c : Array Value) : Prop := ∃ T, w.heap[b]? = some (.cells c T (0, 0))
theorem Bx.cell {w : World} {b : Nat} {c : Array Value} (h : Bx w b c) (j : Nat) : w.cell? ⟨b, j, none⟩ = c[j]? := by
  obtain ⟨T, h⟩ := h
  unfold World.cell?; rw [h]; rfl
theorem Bx.froz {w : World} {b : Nat} {c : Array Value} (h : Bx w b c) (j : Nat) : w.frozen? ⟨b, j, none⟩ = false := by
  obtain ⟨T, h⟩ := h
  exact Lib.frozen_of_heap h j
theorem Bx.lt {w : World} {b : Nat} {c : Array Value} (h : Bx w b c) : b < w.heap.size := by
  obtain ⟨T, h⟩ := h
  rcases Nat.lt_or_ge b w.heap.size with h1 | h1
  · exact h1
  · rw [Array.getElem?_eq_none h1] at h; exact absurd h (by simp)
theorem Bx.keep {w w' : World} {b : Nat} {c : Array Value} (h : Bx w b c) (hb : w'.heap[b]? = w.heap[b]?) : Bx w' b c := by
  obtain ⟨T, h⟩ := h
  exact ⟨T, by rw [hb]; exact h⟩
theorem Bx.next {w w' : World} {b : Nat} {c : Array Value} (h : Bx w b c) (hb : Below w.heap.size w w') : Bx w' b c := h.keep (hb.block b h.lt)
theorem Bx.tch {w w' : World} {R b : Nat} {c : Array Value} (h : Bx w b c) (hb : Tch R w w') (hn : b ≠ R) : Bx w' b c := h.keep (hb.block b h.lt hn)
theorem Bx.made (w : World) (T : Nat) (c : Array Value) : Bx (w.alloc (.cells c T)) w.heap.size c := ⟨T, by show (w.heap.push _)[w.heap.size]? = _; rw [Array.getElem?_push_size]⟩
theorem Bx.made' {w w' : World} {T b : Nat} {c : Array Value} (he : w.alloc (.cells c T) = w') (hb : w.heap.size = b) : Bx w' b c := by subst he hb; exact Bx.made w T c
theorem Bx.alloc {w : World} {b : Nat} {c : Array Value} (h : Bx w b c) (o : Obj) : Bx (w.alloc o) b c := h.next (alloc_below _ _)
theorem Bx.set {w : World} {b : Nat} {c : Array Value} (h : Bx w b c) (j : Nat) (u : Value) : Bx (w.setCell ⟨b, j, none⟩ u) b (c.setIfInBounds j u) := by
  obtain ⟨T, h⟩ := h
  exact ⟨T, by simp [World.setCell, Array.getElem?_modify, h]⟩
theorem Bx.off {w : World} {b k : Nat} {c : Array Value} (h : Bx w b c) (hn : b ≠ k) (j : Nat) (u : Value) : Bx (w.setCell ⟨k, j, none⟩ u) b c := h.keep (Below.heap_setCell _ _ _ _ hn)
theorem IsNds.set {w : World} {B k j : Nat} {ao : Option Addr} {l : List Nd} {u : Value} (h : IsNds w (geB B) ao l) (hk : k < B) : IsNds (w.setCell ⟨k, j, none⟩ u) (geB B) ao l :=
  h.keep fun i hi _ => ⟨Below.heap_setCell _ _ _ _ (by show i ≠ k; unfold geB at hi; omega), hi⟩
theorem set_bel {w w1 : World} {B k j : Nat} {u : Value} (h : Below B w w1) (hk : B ≤ k) : Below B w (w1.setCell ⟨k, j, none⟩ u) := h.setCell (p := ⟨k, j, none⟩) hk u
theorem IsSls.set {w : World} {R j : Nat} {ao : Option Addr} {L : List Sl} {u : Value} (h : IsSls w ao L) (hR : ∀ b o, ao = some ⟨b, o, none⟩ → b ≠ R) : IsSls (w.setCell ⟨R, j, none⟩ u) ao L := by
  intro i v hi
  obtain ⟨b, o, h0, h1, h2, h3, h4⟩ := h i v hi
  have hb := Below.heap_setCell w ⟨R, j, none⟩ u b (hR b o h0)
  exact ⟨b, o, h0, by rw [World.cell?_of_block (a := ⟨b, _, none⟩) hb]; exact h1, by rw [World.cell?_of_block (a := ⟨b, _, none⟩) hb]; exact h2, by rw [World.cell?_of_block (a := ⟨b, _, none⟩) hb]; exact h3, by rw [World.cell?_of_block (a := ⟨b, _, none⟩) hb]; exact h4⟩
theorem below_drawn {B : Nat} {w w1 : World} (h : Below B w w1) (n : Nat) : Below B w (w1.drewN n) := ⟨h.os, h.tape, h.output, h.size, h.block⟩
theorem below_undrawn {B : Nat} {w w1 : World} (h : Below B w.drew w1) : Below B w w1 := ⟨h.os, h.tape, h.output, h.size, h.block⟩
theorem s_eq {Y : ByteArray} {l s : List UInt8} (H : Hid (baL l = Y)) (h : l = s) : (Y.toList == s) = true := by
  rw [← H.out, Lib.toList_data, beq_iff_eq]; exact h
end Go.Proofs.YtnhbjhdkpbhioaaGreatDoor
namespace Go.Proofs.YtnhbjhdkpbhioaaGreatDoor
open Go.RowKit
theorem kid_at {l : List Nd} {j : Nat} (h : j < l.length) : ∃ y, l[j]? = some y := ⟨_, List.getElem?_eq_getElem h⟩
end Go.Proofs.YtnhbjhdkpbhioaaGreatDoor
namespace Go.Proofs.YtnhbjhdkpbhioaaGreatDoor
open Go.RowKit
def placeI (l : List Sl) (n : ByteArray) : Int := (((placeS l n).getD 0 : Nat) : Int)
theorem placeI_at {l : List Sl} {n : ByteArray} {p : Nat} (h : placeS l n = some p) : placeI l n = (p : Int) := by unfold placeI; rw [h]; rfl
set_option maxHeartbeats 2000000 in
set_option maxRecDepth 8000 in
theorem tslot_any (t : Tp) (ao : Option Addr) (cap : Nat) (n : ByteArray) (w : World) (hN : t.l.length ≤ 1000) (h : IsSls w ao t.l) :
    Calls Tryz.prog 83 #[tmV t ao cap, .string n] w fun e w' => e = .returned (.tuple #[.int .i64 (placeI t.l n), .bool (placeS t.l n).isSome]) ∧ Below w.heap.size w w' := by
  unfold tmV
  obtain ⟨tn, l⟩ := t
  simp only at hN h ⊢
  obtain ⟨N, HN⟩ : ∃ N, Hid (l.length = N) := ⟨_, rfl⟩
  obtain ⟨Q, HQ⟩ : ∃ Q, Hid (placeS l n = Q) := ⟨_, rfl⟩
  obtain ⟨P, HP⟩ : ∃ P, Hid (placeI l n = P) := ⟨_, rfl⟩
  rw [HN.out, HQ.out, HP.out]
  rw [HN.out] at hN
  have HI : Hid (IsSls w ao l) := h
  clear h
  go_enter Tryz.func83, Tryz.ntmps83
  go_wp2
  obtain ⟨W0, hW0⟩ : ∃ W0, w.alloc (.cells #[.string tn, .slice ao N cap] 108) = W0 := ⟨_, rfl⟩
  have HB0 : Hid (Below w.heap.size w W0) := by rw [← hW0]; exact alloc_below _ _
  rw [hW0]
  clear hW0
  go_loopw [11] (fun q wr => ∃ k : Nat, k ≤ N ∧ q = .int .i64 k ∧ Hid (Below w.heap.size w wr) ∧ Hid (∀ m s, m < k → l[m]? = some s → s.n ≠ n)) (fun q _ => N - (intOf q).toNat)
  case atStart => exact ⟨0, Nat.zero_le _, rfl, HB0, fun m s hm => absurd hm (by omega)⟩
  case round =>
    obtain ⟨k, hk, rfl, HB, HM⟩ := hrel
    clear HB0
    by_cases hlt : k < N
    · have hki : (k : Int) < (N : Int) := by omega
      have hk0 : (0 : Int) ≤ (k : Int) := by omega
      obtain ⟨s, hs⟩ : ∃ s, l[k]? = some s := ⟨_, List.getElem?_eq_getElem (by rw [HN.out]; exact hlt)⟩
      obtain ⟨b, o, rfl, c0, c1, c2, c3⟩ := (HI.out.next HB.out) k s hs
      have HS : Hid (l[k]? = some s) := hs
      obtain ⟨sn, sk, si, ss⟩ := s
      simp only at c0 c1 c2 c3
      have HBn : Hid (Below w.heap.size w (wr.alloc (.cells #[.string sn, .int .i64 sk, .int .i64 si, .string ss] 143))) := next_trans HB.out (alloc_below _ _)
      clear hs
      by_cases he : sn = n
      · have hd : (sn.toList == n.toList) = true := by rw [beq_ba]; exact decide_eq_true he
        have hq : placeS l n = some k := place_at l n k _ HS.out he HM.out
        obtain rfl : Q = some k := by rw [← HQ.out, hq]
        obtain rfl : P = (k : Int) := by rw [← HP.out, placeI_at hq]
        clear HM HS he hq HQ HP HI
        go_wp2
        go_ret2
        exact ⟨rfl, HBn.out⟩
      · have hd : (sn.toList == n.toList) = false := by rw [beq_ba]; exact decide_eq_false he
        have HM2 : Hid (∀ m s, m < k + 1 → l[m]? = some s → s.n ≠ n) := fun m s hm hms => by
          by_cases e : m = k
          · subst e; rw [HS.out] at hms; cases hms; exact he
          · exact HM.out m s (by omega) hms
        clear HM HS he
        go_wp2
        go_roundw
        case rel => exact ⟨k + 1, by omega, by go_num, HBn, HM2⟩
        case measure => simp [intOf]; omega
    · have hki : ¬ (k : Int) < (N : Int) := by omega
      have hq : placeS l n = none := (place_none l n).2 fun s hs => by
        obtain ⟨m, hm⟩ := List.getElem?_of_mem hs
        exact HM.out m s (by have := (List.getElem?_eq_some_iff.1 hm).1; rw [HN.out] at this; omega) hm
      obtain rfl : Q = none := by rw [← HQ.out, hq]
      obtain rfl : P = 0 := by rw [← HP.out]; unfold placeI; rw [hq]; rfl
      clear HM hq HQ HP HI
      go_wp2
      go_ret2
      exact ⟨rfl, HB.out⟩
end Go.Proofs.YtnhbjhdkpbhioaaGreatDoor
