/- The walk of BuiltTypes. -/
import Derived.Test.YtfglmfldpmpofaaDoorBtKnow
import Derived.Test.YtfglmfldpmpofaaDoorValRight3
import Derived.Test.YtfglmfldpmpofaaDoorBtOpen
namespace Go.Proofs.YtfglmfldpmpofaaDoor
open Go.RowKit

/-- The names that are asked. -/
def tyName (j : Nat) : ByteArray := if j = 0 then ⟨#[43]⟩ else if j = 1 then ⟨#[45]⟩ else if j = 2 then ⟨#[42]⟩ else if j = 3 then ⟨#[109, 105, 110]⟩ else if j = 4 then ⟨#[109, 97, 120]⟩ else if j = 5 then ⟨#[60]⟩ else if j = 6 then ⟨#[60, 61]⟩ else if j = 7 then ⟨#[62]⟩ else if j = 8 then ⟨#[62, 61]⟩ else ⟨#[]⟩
theorem lt9 {j : Nat} (h : j < 9) : j = 0 ∨ j = 1 ∨ j = 2 ∨ j = 3 ∨ j = 4 ∨ j = 5 ∨ j = 6 ∨ j = 7 ∨ j = 8 := by omega
def NinesAt (w : World) (b : Nat) : Prop := ∀ j, j < 9 → w.cell? ⟨b, j, none⟩ = some (.string (tyName j))
theorem nines_made (w : World) (b : Nat) (hb : b = w.heap.size) : NinesAt (w.alloc (.cells #[.string ⟨#[43]⟩, .string ⟨#[45]⟩, .string ⟨#[42]⟩, .string ⟨#[109, 105, 110]⟩, .string ⟨#[109, 97, 120]⟩, .string ⟨#[60]⟩, .string ⟨#[60, 61]⟩, .string ⟨#[62]⟩, .string ⟨#[62, 61]⟩] 9)) b := by
  intro j hj
  refine box_cell hb ?_
  rcases lt9 hj with rfl | rfl | rfl | rfl | rfl | rfl | rfl | rfl | rfl
  all_goals rfl
theorem ty_cases {j : Nat} (h : j < 9) : code (tyName j) ≠ 21 ∧ loC (code (tyName j)) ≤ 2 ∧ hiC (code (tyName j)) = -1 ∧ (∀ L, answerR (code (tyName j)) L = numbersR (code (tyName j)) L) := by
  rcases lt9 h with rfl | rfl | rfl | rfl | rfl | rfl | rfl | rfl | rfl
  all_goals exact ⟨by decide, by decide, by decide, fun L => rfl⟩
theorem ty_apply {j : Nat} (h : j < 9) {L : List Val} (h2 : 2 ≤ L.length) (hA : allInt L = false) : applyR (code (tyName j)) L = (⟨0, 0, ⟨#[]⟩⟩, 8) := by
  obtain ⟨c1, c2, c3, c4⟩ := ty_cases h
  unfold applyR
  rw [if_neg c1, if_pos, c4]
  · unfold numbersR
    rw [if_neg (by rw [hA]; decide)]
    rfl
  · unfold fitC
    exact decide_eq_true ⟨by omega, .inl (by omega)⟩
/-- Numbers as values. -/
def valsOf (l : List Int) : List Val := l.map fun n => ⟨1, n, ⟨#[]⟩⟩
theorem valsOf_take {l : List Int} {n : Nat} {z : Int} (h : l[n]? = some z) : valsOf (l.take (n + 1)) = valsOf (l.take n) ++ [⟨1, z, ⟨#[]⟩⟩] := by
  obtain ⟨h1, e1⟩ := List.getElem?_eq_some_iff.1 h
  unfold valsOf
  rw [List.take_succ_eq_append_getElem h1, e1, List.map_append]
  rfl
theorem valsOf_len (l : List Int) : (valsOf l).length = l.length := by unfold valsOf; rw [List.length_map]
theorem addr_ne {g a b : Nat} (h : a ≠ b) : (⟨g, a, none⟩ : Addr) ≠ ⟨g, b, none⟩ := fun e => h (by injection e)
/-- A value is laid into a row. -/
theorem set_vals {w : World} {g j : Nat} {L : List Val} {old v : Val} (h : IsVals w (some ⟨g, 0, none⟩) L) (hj : L[j]? = some old) :
    IsVals (((w.setCell ⟨g, j * 3, none⟩ (.int .i64 v.k)).setCell ⟨g, j * 3 + 1, none⟩ (.int .i64 v.i)).setCell ⟨g, j * 3 + 2, none⟩ (.string v.s)) (some ⟨g, 0, none⟩) (L.set j v) := by
  have cells : ∀ m u, L[m]? = some u → w.cell? ⟨g, m * 3, none⟩ = some (.int .i64 u.k) ∧ w.cell? ⟨g, m * 3 + 1, none⟩ = some (.int .i64 u.i) ∧ w.cell? ⟨g, m * 3 + 2, none⟩ = some (.string u.s) := by
    intro m u hm
    obtain ⟨b, o, e, h0, h1, h2⟩ := h m u hm
    obtain ⟨rfl, rfl⟩ : b = g ∧ o = 0 := by injection e with e; injection e with e1 e2; exact ⟨e1.symm, e2.symm⟩
    simp only [Nat.zero_add] at h0 h1 h2
    exact ⟨h0, h1, h2⟩
  intro m u hm
  refine ⟨g, 0, rfl, ?_⟩
  simp only [Nat.zero_add]
  obtain ⟨k0, k1, k2⟩ := cells j old hj
  by_cases e : m = j
  · subst e
    have hl := (List.getElem?_eq_some_iff.1 hj).1
    rw [List.getElem?_set_self hl] at hm
    obtain rfl := Option.some.inj hm
    have s0 := World.cell?_setCell_same _ _ (.int .i64 v.k) k0
    have s1 : ((w.setCell ⟨g, m * 3, none⟩ (.int .i64 v.k))).cell? ⟨g, m * 3 + 1, none⟩ = some (.int .i64 old.i) := by rw [World.cell?_setCell_other _ _ _ _ (addr_ne (by omega))]; exact k1
    have s2 : (((w.setCell ⟨g, m * 3, none⟩ (.int .i64 v.k))).setCell ⟨g, m * 3 + 1, none⟩ (.int .i64 v.i)).cell? ⟨g, m * 3 + 2, none⟩ = some (.string old.s) := by rw [World.cell?_setCell_other _ _ _ _ (addr_ne (by omega)), World.cell?_setCell_other _ _ _ _ (addr_ne (by omega))]; exact k2
    refine ⟨?_, ?_, World.cell?_setCell_same _ _ _ s2⟩
    · rw [World.cell?_setCell_other _ _ _ _ (addr_ne (by omega)), World.cell?_setCell_other _ _ _ _ (addr_ne (by omega))]; exact s0
    · rw [World.cell?_setCell_other _ _ _ _ (addr_ne (by omega))]; exact World.cell?_setCell_same _ _ _ s1
  · rw [List.getElem?_set_ne (fun h => e h.symm)] at hm
    obtain ⟨c0, c1, c2⟩ := cells m u hm
    refine ⟨?_, ?_, ?_⟩
    all_goals rw [World.cell?_setCell_other _ _ _ _ (addr_ne (by omega)), World.cell?_setCell_other _ _ _ _ (addr_ne (by omega)), World.cell?_setCell_other _ _ _ _ (addr_ne (by omega))]
    · exact c0
    · exact c1
    · exact c2
theorem set_none {L : List Val} {j : Nat} {v : Val} (hj : j < L.length) (hk : v.k ≠ 1) : allInt (L.set j v) = false := by
  unfold allInt
  rw [List.all_eq_false]
  refine ⟨v, ?_, by simpa using hk⟩
  exact List.mem_iff_getElem?.2 ⟨j, by rw [List.getElem?_set_self hj]⟩
theorem set_right {l : List Int} {j : Nat} {v : Val} (hl : ∀ z ∈ l, inB z = true) (hv : rightV v) : ∀ u ∈ (valsOf l).set j v, rightV u := by
  intro u hu
  rcases List.mem_or_eq_of_mem_set hu with h | h
  · unfold valsOf at h
    obtain ⟨z, hz, rfl⟩ := List.mem_map.1 h
    exact right_i z (hl z hz)
  · rw [h]; exact hv
theorem own_block {w : World} {B T : Nat} {v : Value} {L : List Val} {n : Nat} (hn : L.length = n) (h1 : 1 ≤ n) (h : w.ownsRow B T 3 v n (valsC L)) : ∃ g cap, v = .slice (some ⟨g, 0, none⟩) n cap ∧ B ≤ g ∧ IsVals w (some ⟨g, 0, none⟩) L ∧ (∀ j, w.frozen? ⟨g, j, none⟩ = false) ∧ g < w.heap.size := by
  obtain ⟨ao, cap, e, hv, _⟩ := own_vals hn h
  rcases h.2 with ⟨rfl, h0⟩ | ⟨g, cap', cur, rfl, hg, hh, _⟩
  · omega
  · refine ⟨g, cap', rfl, hg, ?_, fun j => Lib.frozen_of_heap hh j, ?_⟩
    · injection e with e1 e2 e3
      rw [e1]; exact hv
    · rcases Nat.lt_or_ge g w.heap.size with h1 | h1
      · exact h1
      · rw [Array.getElem?_eq_none h1] at hh; exact absurd hh (by simp)

set_option maxHeartbeats 1000000 in
set_option maxRecDepth 8000 in
theorem types_out (a : Int) (ao : Option Addr) (N cap : Nat) (at1 : Int) (k i : Int) (s : ByteArray) (w : World) (hs : s.size ≤ 9223372036854775807) (h : N < 2 ∨ 20 < N ∨ at1 < 0 ∨ rightB k i s = false ∨ k = 1) (ht : TabW w) :
    Calls Tryd.prog 6 #[.int .u8 a, .slice ao N cap, .int .i64 at1, .agg #[.int .i64 (k), .int .i64 (i), .string (s)]] w fun e w' => e = .returned (.bool true) ∧ Below w.heap.size w w' := by
  have HT : Hid (TabW (w.alloc (.cells #[.int .i64 k, .int .i64 i, .string s] 26))) := tab_alloc ht
  obtain ⟨q, HQ⟩ : ∃ q, Hid (rightB k i s = q) := ⟨_, rfl⟩
  have hrt : Hid (∀ w : World, Calls Tryd.prog 10 #[.agg #[.int .i64 (k), .int .i64 (i), .string (s)]] w fun e w' => e = .returned (.bool q) ∧ Below w.heap.size w w') := by
    intro w; rw [← HQ.out]; exact brright_any k i s w hs
  rw [HQ.out] at h
  obtain ⟨B, HB⟩ : ∃ B, Hid (w.heap.size = B) := ⟨_, rfl⟩
  clear ht hs
  have pre : ∀ {w1 : World}, Below (w.alloc (.cells #[.int .i64 k, .int .i64 i, .string s] 26)).heap.size (w.alloc (.cells #[.int .i64 k, .int .i64 i, .string s] 26)) w1 → w1.cell? ⟨B, 0, none⟩ = some (.int .i64 k) ∧ w1.cell? ⟨B, 1, none⟩ = some (.int .i64 i) ∧ w1.cell? ⟨B, 2, none⟩ = some (.string s) ∧ Hid (Below w.heap.size w w1) := fun hb => by
    rw [← HB.out]
    exact ⟨keep_cell hb (box0 rfl), keep_cell hb (box0 rfl), keep_cell hb (box0 rfl), next_trans' (alloc_below' _ _) hb⟩
  by_cases h1 : N < 2
  · have h1' : (N : Int) < 2 := by omega
    go_enter Tryd.func6, Tryd.ntmps6
    go_wp2_with fail
    refine (known6 _ HT.out).mono ?_
    rintro e w1 ⟨rfl, hb1⟩
    obtain ⟨c0, c1, c2, b1⟩ := pre hb1
    clear hb1 pre
    go_wp2
    go_ret
    exact ⟨rfl, b1.out⟩
  have h1' : ¬ (N : Int) < 2 := by omega
  by_cases h2 : 20 < N
  · have h2' : (20 : Int) < (N : Int) := by omega
    go_enter Tryd.func6, Tryd.ntmps6
    go_wp2_with fail
    refine (known6 _ HT.out).mono ?_
    rintro e w1 ⟨rfl, hb1⟩
    obtain ⟨c0, c1, c2, b1⟩ := pre hb1
    clear hb1 pre
    go_wp2
    go_ret
    exact ⟨rfl, b1.out⟩
  have h2' : ¬ (20 : Int) < (N : Int) := by omega
  have h1d : decide ((N : Int) < 2) = false := decide_eq_false h1'
  have h2d : decide ((20 : Int) < (N : Int)) = false := decide_eq_false h2'
  by_cases h3 : at1 < 0
  · have h3d : decide (at1 < 0) = true := decide_eq_true h3
    go_enter Tryd.func6, Tryd.ntmps6
    go_wp2_with fail
    refine (known6 _ HT.out).mono ?_
    rintro e w1 ⟨rfl, hb1⟩
    obtain ⟨c0, c1, c2, b1⟩ := pre hb1
    clear hb1 pre
    go_wp2
    go_ret
    exact ⟨rfl, b1.out⟩
  have h3d : decide (at1 < 0) = false := decide_eq_false h3
  cases q
  · go_enter Tryd.func6, Tryd.ntmps6
    go_wp2_with fail
    refine (known6 _ HT.out).mono ?_
    rintro e w1 ⟨rfl, hb1⟩
    obtain ⟨c0, c1, c2, b1⟩ := pre hb1
    clear hb1 pre
    rw [HB.out]
    go_wp2_with fail
    refine (hrt.out _).mono ?_
    rintro e w2 ⟨rfl, hb2⟩
    go_wp2
    go_ret
    exact ⟨rfl, next_trans' b1.out hb2⟩
  · have hk : k = 1 := by
      rcases h with h | h | h | h | h
      · exact absurd h h1
      · exact absurd h h2
      · exact absurd h h3
      · exact absurd h (by decide)
      · exact h
    have hk' : (k == 1) = true := by simpa using hk
    clear hk h
    go_enter Tryd.func6, Tryd.ntmps6
    go_wp2_with fail
    refine (known6 _ HT.out).mono ?_
    rintro e w1 ⟨rfl, hb1⟩
    obtain ⟨c0, c1, c2, b1⟩ := pre hb1
    clear hb1 pre
    rw [HB.out]
    go_wp2_with fail
    refine (hrt.out _).mono ?_
    rintro e w2 ⟨rfl, hb2⟩
    have d0 := keep_cell hb2 c0
    go_wp2
    go_ret
    exact ⟨rfl, next_trans' b1.out hb2⟩

set_option maxHeartbeats 4000000 in
set_option maxRecDepth 8000 in
theorem types_in (a : Int) (ao : Option Addr) (N cap : Nat) (l : List Int) (at1 : Int) (k i : Int) (s : ByteArray) (w : World) (ha : 0 ≤ a ∧ a < 256) (h1 : 2 ≤ N) (h2 : N ≤ 20) (hN : l.length = N) (hv : IntsW w ao l) (hl : ∀ z ∈ l, inB z = true) (h3 : 0 ≤ at1) (h3' : at1 ≤ 9223372036854775807) (hr : rightV ⟨k, i, s⟩) (hk : k ≠ 1) (ht : TabW w) :
    Calls Tryd.prog 6 #[.int .u8 a, .slice ao N cap, .int .i64 at1, .agg #[.int .i64 (k), .int .i64 (i), .string (s)]] w fun e w' => e = .returned (.bool true) ∧ Below w.heap.size w w' := by
  obtain ⟨i0, hi, hz0, hz1, hz2⟩ := infoVal'
  have HT : Hid (TabW (w.alloc (.cells #[.int .i64 k, .int .i64 i, .string s] 26))) := tab_alloc ht
  have HTw : Hid (TabW w) := ht
  have hrt : Hid (∀ w : World, Calls Tryd.prog 10 #[.agg #[.int .i64 (k), .int .i64 (i), .string (s)]] w fun e w' => e = .returned (.bool true) ∧ Below w.heap.size w w') := by
    intro w; rw [← hr.1]; exact brright_any k i s w (by have := right_bd hr; simp at this; omega)
  have HV : Hid (IntsW w ao l) := hv
  have HL : Hid (∀ z ∈ l, inB z = true) := hl
  have HN : Hid (l.length = N) := hN
  have HR : Hid (rightV ⟨k, i, s⟩) := hr
  have HK : Hid (k ≠ 1) := hk
  have hk1 : (k == 1) = false := by simpa using hk
  have h1' : ¬ (N : Int) < 2 := by omega
  have h2' : ¬ (20 : Int) < (N : Int) := by omega
  have h1d : decide ((N : Int) < 2) = false := decide_eq_false h1'
  have h2d : decide ((20 : Int) < (N : Int)) = false := decide_eq_false h2'
  have h3d : decide (at1 < 0) = false := decide_eq_false (by omega)
  obtain ⟨B, HB⟩ : ∃ B, Hid (w.heap.size = B) := ⟨_, rfl⟩
  clear ht hv hl hN hr hk
  go_enter Tryd.func6, Tryd.ntmps6
  go_wp2_with fail
  refine (known6 _ HT.out).mono ?_
  rintro e w1 ⟨rfl, hb1⟩
  have c0 : w1.cell? ⟨B, 0, none⟩ = some (.int .i64 k) := by rw [← HB.out]; exact keep_cell hb1 (box0 rfl)
  have c1 : w1.cell? ⟨B, 1, none⟩ = some (.int .i64 i) := by rw [← HB.out]; exact keep_cell hb1 (box0 rfl)
  have c2 : w1.cell? ⟨B, 2, none⟩ = some (.string s) := by rw [← HB.out]; exact keep_cell hb1 (box0 rfl)
  have b1 : Hid (Below w.heap.size w w1) := next_trans' (alloc_below' _ _) hb1
  clear hb1 HT
  rw [HB.out]
  go_wp2_with fail
  refine (hrt.out _).mono ?_
  rintro e w2 ⟨rfl, hb2⟩
  have d0 := keep_cell hb2 c0
  have HD0 : Hid (w2.cell? ⟨B, 0, none⟩ = some (.int .i64 k)) := d0
  have HD1 : Hid (w2.cell? ⟨B, 1, none⟩ = some (.int .i64 i)) := keep_cell hb2 c1
  have HD2 : Hid (w2.cell? ⟨B, 2, none⟩ = some (.string s)) := keep_cell hb2 c2
  have b2 : Hid (Below w.heap.size w w2) := next_trans' b1.out hb2
  clear hb2 b1 hrt c0 c1 c2
  go_wp2
  clear d0
  go_loopw [9, 10] (fun x y wr => ∃ n : Nat, n ≤ N ∧ y = .int .i64 n ∧ Hid (wr.ownsRow (B + 1) 26 3 x n (valsC (valsOf (l.take n)))) ∧ Hid (Below w.heap.size w wr) ∧ Hid (wr.cell? ⟨B, 0, none⟩ = some (.int .i64 k)) ∧ Hid (wr.cell? ⟨B, 1, none⟩ = some (.int .i64 i)) ∧ Hid (wr.cell? ⟨B, 2, none⟩ = some (.string s))) (fun _ y _ => N - (intOf y).toNat)
  case atStart => exact ⟨0, Nat.zero_le _, rfl, World.ownsRow_nil _ _ _ _, b2, HD0, HD1, HD2⟩
  case round =>
    obtain ⟨n, hn, rfl, HO, HWr, HE0, HE1, HE2⟩ := hrel
    clear HD0 HD1 HD2 b2
    by_cases hlt : n < N
    · have hki : (n : Int) < (N : Int) := by omega
      obtain ⟨z, HG⟩ : ∃ z, Hid (l[n]? = some z) := ⟨_, List.getElem?_eq_getElem (by rw [HN.out]; exact hlt)⟩
      obtain ⟨b, o, rfl, cz⟩ := (HV.out.next HWr.out) n z HG.out
      go_wp2_with fail
      refine (rint_any z _).mono ?_
      rintro e w3 ⟨rfl, hb3⟩
      have HB3 : Hid (Below w.heap.size w w3) := next_trans' HWr.out hb3
      have HO3 : Hid (w3.ownsRow (B + 1) 26 3 u9 n (valsC (valsOf (l.take n)))) := bown_next HO.out hb3
      have HF0 : Hid (w3.cell? ⟨B, 0, none⟩ = some (.int .i64 k)) := keep_cell hb3 HE0.out
      have HF1 : Hid (w3.cell? ⟨B, 1, none⟩ = some (.int .i64 i)) := keep_cell hb3 HE1.out
      have HF2 : Hid (w3.cell? ⟨B, 2, none⟩ = some (.string s)) := keep_cell hb3 HE2.out
      clear hb3 HO HE0 HE1 HE2 cz
      go_wp2_with (at_builtin; refine wpList_append_own _ rfl _ _ 22 rfl (B + 1) 26 i0 (.agg #[.int .i64 (0), .int .i64 (0), .string (⟨#[]⟩)]) 3 32 Tryd.underlying22 hi hz0 hz1 hz2 rfl (by decide) _ _ _ rfl (HO3.out.alloc _) ⟨w3.heap.size, 0, none⟩ 1 1 [.int .i64 1, .int .i64 z, .string ⟨#[]⟩] rfl rfl ?c1 ?c2 ?c3 ?c4 ?c5 ?_)
      case c1 =>
        intro j u hj
        match j, hj with
        | 0, hj => simp at hj; subst hj; simp [Addr.add]
        | 1, hj => simp at hj; subst hj; simp [Addr.add]
        | 2, hj => simp at hj; subst hj; simp [Addr.add]
      case c2 => intro u hu; simp at hu; rcases hu with rfl | rfl | rfl <;> rfl
      case c3 => unfold maxLen; omega
      case c4 => omega
      case c5 => have := World.block_lt_of_cell? _ _ HF0.out; simp at this ⊢; omega
      intro v' w4 ho hg _
      have hlB := World.block_lt_of_cell? _ _ HF0.out
      have hne : some B ≠ u9.ownBlock := fun e => by have := (HO3.out.lt B e.symm).1; omega
      have HO4 : Hid (w4.ownsRow (B + 1) 26 3 v' (n + 1) (valsC (valsOf (l.take (n + 1))))) := by
        rw [Hid, valsOf_take HG.out, ← valsC_app]; exact ho
      have HB4 : Hid (Below w.heap.size w w4) := by
        have hs := HB3.out.size
        refine HB3.out.trans (((Below.refl _ w3).alloc hs _).grown hg (by simp; omega) (fun q hq => ?_))
        have := (HO3.out.lt q hq).1
        have := HB.out
        omega
      have HE0 : Hid (w4.cell? ⟨B, 0, none⟩ = some (.int .i64 k)) := by rw [Hid, World.cell?_of_block (w := w3.alloc _) (hg.block B (by simp at hlB ⊢; omega) hne)]; exact alloc_cell HF0.out
      have HE1 : Hid (w4.cell? ⟨B, 1, none⟩ = some (.int .i64 i)) := by rw [Hid, World.cell?_of_block (w := w3.alloc _) (hg.block B (by simp at hlB ⊢; omega) hne)]; exact alloc_cell HF1.out
      have HE2 : Hid (w4.cell? ⟨B, 2, none⟩ = some (.string s)) := by rw [Hid, World.cell?_of_block (w := w3.alloc _) (hg.block B (by simp at hlB ⊢; omega) hne)]; exact alloc_cell HF2.out
      clear ho hg hlB hne HF0 HF1 HF2 HO3 HB3
      go_wp2
      go_roundw
      case rel => exact ⟨n + 1, by omega, by go_num, HO4, HB4, HE0, HE1, HE2⟩
      case measure => simp [intOf]; omega
    · have hki : ¬ (n : Int) < (N : Int) := by omega
      have hnN : n = N := by omega
      subst hnN
      have HO2 := HO.out
      rw [List.take_of_length_le (by rw [HN.out]; exact Nat.le_refl _)] at HO2
      obtain ⟨g, cap2, rfl, hgB, HI, hfz, hgl⟩ := own_block (by rw [valsOf_len]; exact HN.out) (by omega) HO2
      obtain ⟨j, hj, hj2⟩ : ∃ j : Nat, at1 % (n : Int) = (j : Int) ∧ j < n := by
        have hp : (0 : Int) < (n : Int) := by omega
        have e1 := Int.emod_nonneg at1 (show (n : Int) ≠ 0 by omega)
        have e2 := Int.emod_lt_of_pos at1 hp
        exact ⟨(at1 % (n : Int)).toNat, by omega, by omega⟩
      have hjn : (j : Int) < (n : Int) := by omega
      have hn1 : (1 : Int) ≤ (n : Int) := by omega
      have hn0 : ((n : Int) == 0) = false := by simp; omega
      obtain ⟨old, HG⟩ : ∃ old, Hid ((valsOf l)[j]? = some old) := ⟨_, List.getElem?_eq_getElem (by rw [valsOf_len, HN.out]; exact hj2)⟩
      obtain ⟨g', o', eo, t0, t1, t2⟩ := HI j old HG.out
      obtain ⟨rfl, rfl⟩ : g' = g ∧ o' = 0 := by injection eo with e; injection e with e1 e2; exact ⟨e1.symm, e2.symm⟩
      simp only [Nat.zero_add] at t0 t1 t2
      have f0 := hfz (j * 3)
      have f1 := hfz (j * 3 + 1)
      have f2 := hfz (j * 3 + 2)
      have e0 := HE0.out
      have e1 := HE1.out
      have e2 := HE2.out
      clear hfz HO HO2 HE0 HE1 HE2 eo
      go_wp2
      go_region
      obtain ⟨W, HWe⟩ : ∃ W, W = (((wr.setCell ⟨g', j * 3, none⟩ (.int .i64 k)).setCell ⟨g', j * 3 + 1, none⟩ (.int .i64 i)).setCell ⟨g', j * 3 + 2, none⟩ (.string s)).drew := ⟨_, rfl⟩
      have HI2 : Hid (IsVals W (some ⟨g', 0, none⟩) ((valsOf l).set j ⟨k, i, s⟩)) := by
        rw [HWe]
        exact set_vals (v := ⟨k, i, s⟩) HI HG.out
      have bW : Hid (Below w.heap.size w W) := by
        have hge : w.heap.size ≤ g' := by have := HB.out; omega
        rw [HWe]
        exact (((HWr.out.setCell (p := ⟨g', j * 3, none⟩) hge _).setCell (p := ⟨g', j * 3 + 1, none⟩) hge _).setCell (p := ⟨g', j * 3 + 2, none⟩) hge _).drew
      have HAi : Hid (allInt ((valsOf l).set j ⟨k, i, s⟩) = false) := set_none (by rw [valsOf_len, HN.out]; exact hj2) HK.out
      have HRr : Hid (∀ u ∈ (valsOf l).set j ⟨k, i, s⟩, rightV u) := set_right HL.out HR.out
      have HLn : Hid (((valsOf l).set j ⟨k, i, s⟩).length = n) := by rw [Hid, List.length_set, valsOf_len]; exact HN.out
      rw [← HWe]
      obtain ⟨m, hm, hm9⟩ : ∃ m : Nat, a % 9 = (m : Int) ∧ m < 9 := ⟨(a % 9).toNat, by omega, by omega⟩
      obtain ⟨ha0, ha1⟩ := ha
      clear HWe HI t0 t1 t2 f0 f1 f2 e0 e1 e2 hj hgB hgl HWr
      rcases lt9 hm9 with rfl | rfl | rfl | rfl | rfl | rfl | rfl | rfl | rfl
      · have HAp : Hid (applyR (code ⟨#[43]⟩) ((valsOf l).set j ⟨k, i, s⟩) = (⟨0, 0, ⟨#[]⟩⟩, 8)) := ty_apply (j := 0) (by decide) (by rw [List.length_set, valsOf_len, HN.out]; exact h1) HAi.out
        have HVn : Hid (IsVals (W.alloc (.cells #[.string ⟨#[43]⟩, .string ⟨#[45]⟩, .string ⟨#[42]⟩, .string ⟨#[109, 105, 110]⟩, .string ⟨#[109, 97, 120]⟩, .string ⟨#[60]⟩, .string ⟨#[60, 61]⟩, .string ⟨#[62]⟩, .string ⟨#[62, 61]⟩] 9)) (some ⟨g', 0, none⟩) ((valsOf l).set j ⟨k, i, s⟩)) := HI2.out.next (alloc_below' _ _)
        have HTn : Hid (TabW (W.alloc (.cells #[.string ⟨#[43]⟩, .string ⟨#[45]⟩, .string ⟨#[42]⟩, .string ⟨#[109, 105, 110]⟩, .string ⟨#[109, 97, 120]⟩, .string ⟨#[60]⟩, .string ⟨#[60, 61]⟩, .string ⟨#[62]⟩, .string ⟨#[62, 61]⟩] 9))) := tab_alloc (tab_next HTw.out bW.out)
        go_wp2_with fail
        refine (apply_any ⟨#[43]⟩ 0 0 8 ⟨#[]⟩ _ cap2 n _ _ HLn.out (by omega) HVn.out HRr.out HTn.out HAp.out).mono ?_
        rintro e w5 ⟨rfl, hb5⟩
        go_wp2
        go_ret
        exact ⟨rfl, next_trans' (next_trans' (next_trans' bW.out (alloc_below' _ _)) hb5) (alloc_below' _ _)⟩
      · have HAp : Hid (applyR (code ⟨#[45]⟩) ((valsOf l).set j ⟨k, i, s⟩) = (⟨0, 0, ⟨#[]⟩⟩, 8)) := ty_apply (j := 1) (by decide) (by rw [List.length_set, valsOf_len, HN.out]; exact h1) HAi.out
        have HVn : Hid (IsVals (W.alloc (.cells #[.string ⟨#[43]⟩, .string ⟨#[45]⟩, .string ⟨#[42]⟩, .string ⟨#[109, 105, 110]⟩, .string ⟨#[109, 97, 120]⟩, .string ⟨#[60]⟩, .string ⟨#[60, 61]⟩, .string ⟨#[62]⟩, .string ⟨#[62, 61]⟩] 9)) (some ⟨g', 0, none⟩) ((valsOf l).set j ⟨k, i, s⟩)) := HI2.out.next (alloc_below' _ _)
        have HTn : Hid (TabW (W.alloc (.cells #[.string ⟨#[43]⟩, .string ⟨#[45]⟩, .string ⟨#[42]⟩, .string ⟨#[109, 105, 110]⟩, .string ⟨#[109, 97, 120]⟩, .string ⟨#[60]⟩, .string ⟨#[60, 61]⟩, .string ⟨#[62]⟩, .string ⟨#[62, 61]⟩] 9))) := tab_alloc (tab_next HTw.out bW.out)
        go_wp2_with fail
        refine (apply_any ⟨#[45]⟩ 0 0 8 ⟨#[]⟩ _ cap2 n _ _ HLn.out (by omega) HVn.out HRr.out HTn.out HAp.out).mono ?_
        rintro e w5 ⟨rfl, hb5⟩
        go_wp2
        go_ret
        exact ⟨rfl, next_trans' (next_trans' (next_trans' bW.out (alloc_below' _ _)) hb5) (alloc_below' _ _)⟩
      · have HAp : Hid (applyR (code ⟨#[42]⟩) ((valsOf l).set j ⟨k, i, s⟩) = (⟨0, 0, ⟨#[]⟩⟩, 8)) := ty_apply (j := 2) (by decide) (by rw [List.length_set, valsOf_len, HN.out]; exact h1) HAi.out
        have HVn : Hid (IsVals (W.alloc (.cells #[.string ⟨#[43]⟩, .string ⟨#[45]⟩, .string ⟨#[42]⟩, .string ⟨#[109, 105, 110]⟩, .string ⟨#[109, 97, 120]⟩, .string ⟨#[60]⟩, .string ⟨#[60, 61]⟩, .string ⟨#[62]⟩, .string ⟨#[62, 61]⟩] 9)) (some ⟨g', 0, none⟩) ((valsOf l).set j ⟨k, i, s⟩)) := HI2.out.next (alloc_below' _ _)
        have HTn : Hid (TabW (W.alloc (.cells #[.string ⟨#[43]⟩, .string ⟨#[45]⟩, .string ⟨#[42]⟩, .string ⟨#[109, 105, 110]⟩, .string ⟨#[109, 97, 120]⟩, .string ⟨#[60]⟩, .string ⟨#[60, 61]⟩, .string ⟨#[62]⟩, .string ⟨#[62, 61]⟩] 9))) := tab_alloc (tab_next HTw.out bW.out)
        go_wp2_with fail
        refine (apply_any ⟨#[42]⟩ 0 0 8 ⟨#[]⟩ _ cap2 n _ _ HLn.out (by omega) HVn.out HRr.out HTn.out HAp.out).mono ?_
        rintro e w5 ⟨rfl, hb5⟩
        go_wp2
        go_ret
        exact ⟨rfl, next_trans' (next_trans' (next_trans' bW.out (alloc_below' _ _)) hb5) (alloc_below' _ _)⟩
      · have HAp : Hid (applyR (code ⟨#[109, 105, 110]⟩) ((valsOf l).set j ⟨k, i, s⟩) = (⟨0, 0, ⟨#[]⟩⟩, 8)) := ty_apply (j := 3) (by decide) (by rw [List.length_set, valsOf_len, HN.out]; exact h1) HAi.out
        have HVn : Hid (IsVals (W.alloc (.cells #[.string ⟨#[43]⟩, .string ⟨#[45]⟩, .string ⟨#[42]⟩, .string ⟨#[109, 105, 110]⟩, .string ⟨#[109, 97, 120]⟩, .string ⟨#[60]⟩, .string ⟨#[60, 61]⟩, .string ⟨#[62]⟩, .string ⟨#[62, 61]⟩] 9)) (some ⟨g', 0, none⟩) ((valsOf l).set j ⟨k, i, s⟩)) := HI2.out.next (alloc_below' _ _)
        have HTn : Hid (TabW (W.alloc (.cells #[.string ⟨#[43]⟩, .string ⟨#[45]⟩, .string ⟨#[42]⟩, .string ⟨#[109, 105, 110]⟩, .string ⟨#[109, 97, 120]⟩, .string ⟨#[60]⟩, .string ⟨#[60, 61]⟩, .string ⟨#[62]⟩, .string ⟨#[62, 61]⟩] 9))) := tab_alloc (tab_next HTw.out bW.out)
        go_wp2_with fail
        refine (apply_any ⟨#[109, 105, 110]⟩ 0 0 8 ⟨#[]⟩ _ cap2 n _ _ HLn.out (by omega) HVn.out HRr.out HTn.out HAp.out).mono ?_
        rintro e w5 ⟨rfl, hb5⟩
        go_wp2
        go_ret
        exact ⟨rfl, next_trans' (next_trans' (next_trans' bW.out (alloc_below' _ _)) hb5) (alloc_below' _ _)⟩
      · have HAp : Hid (applyR (code ⟨#[109, 97, 120]⟩) ((valsOf l).set j ⟨k, i, s⟩) = (⟨0, 0, ⟨#[]⟩⟩, 8)) := ty_apply (j := 4) (by decide) (by rw [List.length_set, valsOf_len, HN.out]; exact h1) HAi.out
        have HVn : Hid (IsVals (W.alloc (.cells #[.string ⟨#[43]⟩, .string ⟨#[45]⟩, .string ⟨#[42]⟩, .string ⟨#[109, 105, 110]⟩, .string ⟨#[109, 97, 120]⟩, .string ⟨#[60]⟩, .string ⟨#[60, 61]⟩, .string ⟨#[62]⟩, .string ⟨#[62, 61]⟩] 9)) (some ⟨g', 0, none⟩) ((valsOf l).set j ⟨k, i, s⟩)) := HI2.out.next (alloc_below' _ _)
        have HTn : Hid (TabW (W.alloc (.cells #[.string ⟨#[43]⟩, .string ⟨#[45]⟩, .string ⟨#[42]⟩, .string ⟨#[109, 105, 110]⟩, .string ⟨#[109, 97, 120]⟩, .string ⟨#[60]⟩, .string ⟨#[60, 61]⟩, .string ⟨#[62]⟩, .string ⟨#[62, 61]⟩] 9))) := tab_alloc (tab_next HTw.out bW.out)
        go_wp2_with fail
        refine (apply_any ⟨#[109, 97, 120]⟩ 0 0 8 ⟨#[]⟩ _ cap2 n _ _ HLn.out (by omega) HVn.out HRr.out HTn.out HAp.out).mono ?_
        rintro e w5 ⟨rfl, hb5⟩
        go_wp2
        go_ret
        exact ⟨rfl, next_trans' (next_trans' (next_trans' bW.out (alloc_below' _ _)) hb5) (alloc_below' _ _)⟩
      · have HAp : Hid (applyR (code ⟨#[60]⟩) ((valsOf l).set j ⟨k, i, s⟩) = (⟨0, 0, ⟨#[]⟩⟩, 8)) := ty_apply (j := 5) (by decide) (by rw [List.length_set, valsOf_len, HN.out]; exact h1) HAi.out
        have HVn : Hid (IsVals (W.alloc (.cells #[.string ⟨#[43]⟩, .string ⟨#[45]⟩, .string ⟨#[42]⟩, .string ⟨#[109, 105, 110]⟩, .string ⟨#[109, 97, 120]⟩, .string ⟨#[60]⟩, .string ⟨#[60, 61]⟩, .string ⟨#[62]⟩, .string ⟨#[62, 61]⟩] 9)) (some ⟨g', 0, none⟩) ((valsOf l).set j ⟨k, i, s⟩)) := HI2.out.next (alloc_below' _ _)
        have HTn : Hid (TabW (W.alloc (.cells #[.string ⟨#[43]⟩, .string ⟨#[45]⟩, .string ⟨#[42]⟩, .string ⟨#[109, 105, 110]⟩, .string ⟨#[109, 97, 120]⟩, .string ⟨#[60]⟩, .string ⟨#[60, 61]⟩, .string ⟨#[62]⟩, .string ⟨#[62, 61]⟩] 9))) := tab_alloc (tab_next HTw.out bW.out)
        go_wp2_with fail
        refine (apply_any ⟨#[60]⟩ 0 0 8 ⟨#[]⟩ _ cap2 n _ _ HLn.out (by omega) HVn.out HRr.out HTn.out HAp.out).mono ?_
        rintro e w5 ⟨rfl, hb5⟩
        go_wp2
        go_ret
        exact ⟨rfl, next_trans' (next_trans' (next_trans' bW.out (alloc_below' _ _)) hb5) (alloc_below' _ _)⟩
      · have HAp : Hid (applyR (code ⟨#[60, 61]⟩) ((valsOf l).set j ⟨k, i, s⟩) = (⟨0, 0, ⟨#[]⟩⟩, 8)) := ty_apply (j := 6) (by decide) (by rw [List.length_set, valsOf_len, HN.out]; exact h1) HAi.out
        have HVn : Hid (IsVals (W.alloc (.cells #[.string ⟨#[43]⟩, .string ⟨#[45]⟩, .string ⟨#[42]⟩, .string ⟨#[109, 105, 110]⟩, .string ⟨#[109, 97, 120]⟩, .string ⟨#[60]⟩, .string ⟨#[60, 61]⟩, .string ⟨#[62]⟩, .string ⟨#[62, 61]⟩] 9)) (some ⟨g', 0, none⟩) ((valsOf l).set j ⟨k, i, s⟩)) := HI2.out.next (alloc_below' _ _)
        have HTn : Hid (TabW (W.alloc (.cells #[.string ⟨#[43]⟩, .string ⟨#[45]⟩, .string ⟨#[42]⟩, .string ⟨#[109, 105, 110]⟩, .string ⟨#[109, 97, 120]⟩, .string ⟨#[60]⟩, .string ⟨#[60, 61]⟩, .string ⟨#[62]⟩, .string ⟨#[62, 61]⟩] 9))) := tab_alloc (tab_next HTw.out bW.out)
        go_wp2_with fail
        refine (apply_any ⟨#[60, 61]⟩ 0 0 8 ⟨#[]⟩ _ cap2 n _ _ HLn.out (by omega) HVn.out HRr.out HTn.out HAp.out).mono ?_
        rintro e w5 ⟨rfl, hb5⟩
        go_wp2
        go_ret
        exact ⟨rfl, next_trans' (next_trans' (next_trans' bW.out (alloc_below' _ _)) hb5) (alloc_below' _ _)⟩
      · have HAp : Hid (applyR (code ⟨#[62]⟩) ((valsOf l).set j ⟨k, i, s⟩) = (⟨0, 0, ⟨#[]⟩⟩, 8)) := ty_apply (j := 7) (by decide) (by rw [List.length_set, valsOf_len, HN.out]; exact h1) HAi.out
        have HVn : Hid (IsVals (W.alloc (.cells #[.string ⟨#[43]⟩, .string ⟨#[45]⟩, .string ⟨#[42]⟩, .string ⟨#[109, 105, 110]⟩, .string ⟨#[109, 97, 120]⟩, .string ⟨#[60]⟩, .string ⟨#[60, 61]⟩, .string ⟨#[62]⟩, .string ⟨#[62, 61]⟩] 9)) (some ⟨g', 0, none⟩) ((valsOf l).set j ⟨k, i, s⟩)) := HI2.out.next (alloc_below' _ _)
        have HTn : Hid (TabW (W.alloc (.cells #[.string ⟨#[43]⟩, .string ⟨#[45]⟩, .string ⟨#[42]⟩, .string ⟨#[109, 105, 110]⟩, .string ⟨#[109, 97, 120]⟩, .string ⟨#[60]⟩, .string ⟨#[60, 61]⟩, .string ⟨#[62]⟩, .string ⟨#[62, 61]⟩] 9))) := tab_alloc (tab_next HTw.out bW.out)
        go_wp2_with fail
        refine (apply_any ⟨#[62]⟩ 0 0 8 ⟨#[]⟩ _ cap2 n _ _ HLn.out (by omega) HVn.out HRr.out HTn.out HAp.out).mono ?_
        rintro e w5 ⟨rfl, hb5⟩
        go_wp2
        go_ret
        exact ⟨rfl, next_trans' (next_trans' (next_trans' bW.out (alloc_below' _ _)) hb5) (alloc_below' _ _)⟩
      · have HAp : Hid (applyR (code ⟨#[62, 61]⟩) ((valsOf l).set j ⟨k, i, s⟩) = (⟨0, 0, ⟨#[]⟩⟩, 8)) := ty_apply (j := 8) (by decide) (by rw [List.length_set, valsOf_len, HN.out]; exact h1) HAi.out
        have HVn : Hid (IsVals (W.alloc (.cells #[.string ⟨#[43]⟩, .string ⟨#[45]⟩, .string ⟨#[42]⟩, .string ⟨#[109, 105, 110]⟩, .string ⟨#[109, 97, 120]⟩, .string ⟨#[60]⟩, .string ⟨#[60, 61]⟩, .string ⟨#[62]⟩, .string ⟨#[62, 61]⟩] 9)) (some ⟨g', 0, none⟩) ((valsOf l).set j ⟨k, i, s⟩)) := HI2.out.next (alloc_below' _ _)
        have HTn : Hid (TabW (W.alloc (.cells #[.string ⟨#[43]⟩, .string ⟨#[45]⟩, .string ⟨#[42]⟩, .string ⟨#[109, 105, 110]⟩, .string ⟨#[109, 97, 120]⟩, .string ⟨#[60]⟩, .string ⟨#[60, 61]⟩, .string ⟨#[62]⟩, .string ⟨#[62, 61]⟩] 9))) := tab_alloc (tab_next HTw.out bW.out)
        go_wp2_with fail
        refine (apply_any ⟨#[62, 61]⟩ 0 0 8 ⟨#[]⟩ _ cap2 n _ _ HLn.out (by omega) HVn.out HRr.out HTn.out HAp.out).mono ?_
        rintro e w5 ⟨rfl, hb5⟩
        go_wp2
        go_ret
        exact ⟨rfl, next_trans' (next_trans' (next_trans' bW.out (alloc_below' _ _)) hb5) (alloc_below' _ _)⟩
theorem types_walk (a : Int) (ao : Option Addr) (N cap : Nat) (l : List Int) (at1 : Int) (k i : Int) (s : ByteArray) (w : World) (ha : 0 ≤ a ∧ a < 256) (hN : l.length = N) (hv : IntsW w ao l) (hl : ∀ z ∈ l, inB z = true) (hat : inB at1 = true) (_ : inB k = true) (hi : inB i = true) (hs : s.size ≤ maxLen) (ht : TabW w) :
    Calls Tryd.prog 6 #[.int .u8 a, .slice ao N cap, .int .i64 at1, .agg #[.int .i64 (k), .int .i64 (i), .string (s)]] w fun e w' => e = .returned (.bool true) ∧ Below w.heap.size w w' := by
  unfold maxLen at hs
  rw [inB_iff] at hat
  by_cases h : N < 2 ∨ 20 < N ∨ at1 < 0 ∨ rightB k i s = false ∨ k = 1
  · exact types_out a ao N cap at1 k i s w (by omega) h ht
  · have hr : rightB k i s = true := by
      cases e : rightB k i s
      · exact absurd (.inr (.inr (.inr (.inl e)))) h
      · rfl
    exact types_in a ao N cap l at1 k i s w ha (by omega) (by omega) hN hv hl (by omega) (by omega) ⟨hr, hi⟩ (fun e => h (.inr (.inr (.inr (.inr e))))) ht

end Go.Proofs.YtfglmfldpmpofaaDoor
