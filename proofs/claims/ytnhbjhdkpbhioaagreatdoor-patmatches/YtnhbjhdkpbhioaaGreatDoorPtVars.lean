import Derived.Test.YtnhbjhdkpbhioaaGreatDoorPtRow
import Derived.Test.YtnhbjhdkpbhioaaGreatDoorH1
namespace Go.Proofs.YtnhbjhdkpbhioaaGreatDoor
open Go.RowKit
def anyN (L : List ByteArray) (m : ByteArray) : Bool := L.any (fun n => decide (n = m))
theorem anyN_no {L : List ByteArray} {m : ByteArray} (h : ∀ (i : Nat) (s : ByteArray), L[i]? = some s → s ≠ m) : anyN L m = false := by
  unfold anyN
  rw [List.any_eq_false]
  intro s hs
  obtain ⟨i, hi⟩ := List.getElem?_of_mem hs
  simp [h i s hi]
theorem anyN_yes {L : List ByteArray} {m : ByteArray} {i : Nat} {s : ByteArray} (h : L[i]? = some s) (e : s = m) : anyN L m = true := by
  unfold anyN
  rw [List.any_eq_true]
  exact ⟨s, List.mem_of_getElem? h, decide_eq_true e⟩
theorem varOne_any {acc : List ByteArray} {t : Ts} (h1 : t.v ≠ noS) (h2 : t.n = false) : varOne acc t = if anyN acc t.v = true then acc else acc ++ [t.v] := by
  unfold varOne anyN
  rw [if_neg h1, h2]
  rfl
theorem varOne_val {acc : List ByteArray} {t : Ts} (h1 : t.v = noS) : varOne acc t = acc := by unfold varOne; rw [if_pos h1]
theorem varOne_not {acc : List ByteArray} {t : Ts} (h2 : t.n = true) : varOne acc t = acc := by unfold varOne; rw [h2]; split <;> rfl
set_option maxHeartbeats 4000000 in
set_option maxRecDepth 8000 in
theorem indexs_any (L : List ByteArray) (N : Nat) (ao : Option Addr) (cap : Nat) (m : ByteArray) (w : World) (hL : L.length = N) (hN : N ≤ 100000) (h : StrsA w ao L) :
    Calls Tryz.prog 99 #[.slice ao N cap, .string m] w fun e w' => (∃ q : Int, e = .returned (.int .i64 q) ∧ anyN L m = decide (0 ≤ q)) ∧ w' = w := by
  have HL : Hid (L.length = N) := hL
  have HI : Hid (StrsA w ao L) := h
  obtain ⟨P, HP⟩ : ∃ P, Hid (anyN L m = P) := ⟨_, rfl⟩
  rw [HP.out]
  clear hL h
  go_enter Tryz.func99, Tryz.ntmps99
  go_wp2
  go_loop [8] (fun q => ∃ k : Nat, k ≤ N ∧ q = .int .i64 k ∧ Hid (∀ i s, i < k → L[i]? = some s → s ≠ m)) (fun q => N - (intOf q).toNat)
  case atStart => exact ⟨0, Nat.zero_le _, rfl, fun m s hm => absurd hm (by omega)⟩
  case round =>
    obtain ⟨k, hk, rfl, HA⟩ := hrel
    by_cases hlt : k < N
    · have hki : (k : Int) < (N : Int) := by omega
      have hk0 : (0 : Int) ≤ (k : Int) := by omega
      obtain ⟨s, hs⟩ : ∃ s, L[k]? = some s := ⟨_, List.getElem?_eq_getElem (by rw [HL.out]; exact hlt)⟩
      obtain ⟨bq, o, rfl, c0⟩ := HI.out k s hs
      have HS : Hid (L[k]? = some s) := hs
      clear hs
      by_cases he : s = m
      · have hd : (m.toList == s.toList) = true := by rw [beq_ba]; exact decide_eq_true he.symm
        obtain rfl : P = true := by rw [← HP.out]; exact anyN_yes HS.out he
        clear HA HS he HP HI
        go_wp2
        go_ret
        exact ⟨⟨_, rfl, by first | exact hk0 | exact (decide_eq_true hk0).symm⟩, rfl⟩
      · have hd : (m.toList == s.toList) = false := by rw [beq_ba]; exact decide_eq_false (fun e => he e.symm)
        have HA2 : Hid (∀ i s, i < k + 1 → L[i]? = some s → s ≠ m) := fun i s hi his => by
          by_cases e : i = k
          · subst e; rw [HS.out] at his; cases his; exact he
          · exact HA.out i s (by omega) his
        clear HA HS he
        go_wp2
        go_round
        case rel => exact ⟨k + 1, by omega, by go_num, HA2⟩
        case measure => simp [intOf]; omega
    · have hki : ¬ (k : Int) < (N : Int) := by omega
      obtain rfl : P = false := by
        rw [← HP.out]
        exact anyN_no fun i s hi => HA.out i s (by have := (List.getElem?_eq_some_iff.1 hi).1; rw [HL.out] at this; omega) hi
      clear HA HP HI
      go_wp2
      go_ret
      exact ⟨⟨_, rfl, by decide⟩, rfl⟩
set_option maxHeartbeats 2000000 in
set_option maxRecDepth 8000 in
theorem hass_any (L : List ByteArray) (N : Nat) (ao : Option Addr) (cap : Nat) (m : ByteArray) (w : World) (hL : L.length = N) (hN : N ≤ 100000) (h : StrsA w ao L) :
    Calls Tryz.prog 65 #[.slice ao N cap, .string m] w fun e w' => e = .returned (.bool (anyN L m)) ∧ w' = w := by
  obtain ⟨P, HP⟩ : ∃ P, Hid (anyN L m = P) := ⟨_, rfl⟩
  have HC : Hid (Calls Tryz.prog 99 #[.slice ao N cap, .string m] w fun e w' => (∃ q : Int, e = .returned (.int .i64 q) ∧ P = decide (0 ≤ q)) ∧ w' = w) := by
    rw [← HP.out]; exact indexs_any L N ao cap m w hL hN h
  rw [HP.out]
  clear hL h HP
  go_enter Tryz.func65, Tryz.ntmps65
  go_wp2_with fail
  refine HC.out.mono ?_
  rintro e w1 ⟨⟨q, rfl, hq⟩, rfl⟩
  clear HC
  by_cases h0 : 0 ≤ q
  · rw [decide_eq_true h0] at hq
    subst hq
    go_wp2
    go_ret
    exact ⟨rfl, rfl⟩
  · rw [decide_eq_false h0] at hq
    subst hq
    go_wp2
    go_ret
    exact ⟨by show Ending.returned (.bool (decide (0 ≤ q))) = _; rw [decide_eq_false (by omega)], rfl⟩
def VsE (w' : World) (L : List ByteArray) (e : Ending) : Prop := ∃ ro rc, e = .returned (.slice ro L.length rc) ∧ StrsA w' ro L
structure VsW (w wr : World) (v : Value) (n : Nat) (G : List ByteArray) : Prop where
  bel : Below w.heap.size w wr
  own : wr.ownsRow (w.heap.size + 1) 9 1 v n (strsC G)
  len : G.length = n
  lt : w.heap.size + 1 ≤ wr.heap.size
theorem VsW.next {w wr w' : World} {v : Value} {n : Nat} {G : List ByteArray} (h : VsW w wr v n G) (hb : Below wr.heap.size wr w') : VsW w w' v n G := ⟨next_trans h.bel hb, own_next h.own hb, h.len, Nat.le_trans h.lt hb.size⟩
set_option maxHeartbeats 8000000 in
set_option maxRecDepth 8000 in
theorem vars_any (P : Ptn) (po : Option Addr) (pc : Nat) (w : World) (hP : P.l.length ≤ 1000) (hs : IsTss w po P.l) :
    Calls Tryz.prog 23 #[ptV P po pc] w fun e w' => VsE w' (varsL P.l) e ∧ Below w.heap.size w w' := by
  obtain ⟨pt, pl⟩ := P
  unfold ptV
  simp only at hP hs ⊢
  obtain ⟨Q, HQ⟩ : ∃ Q, Hid (varsL pl = Q) := ⟨_, rfl⟩
  rw [HQ.out]
  obtain ⟨C, HC⟩ : ∃ C, Hid (pl.length = C) := ⟨_, rfl⟩
  rw [HC.out] at hP ⊢
  have HTs : Hid (IsTss w po pl) := hs
  clear hs
  go_enter Tryz.func23, Tryz.ntmps23
  go_wp2
  have HM0 : Hid (VsW w (w.alloc (.cells #[.string pt, .slice po C pc] 36)) (.slice none 0 0) 0 []) := ⟨alloc_below _ _, World.ownsRow_nil _ _ _ _, rfl, by simp⟩
  go_loopw [3, 9] (fun l q wr => ∃ (k : Nat) (G : List ByteArray) (ro : Option Addr) (rn rc : Nat), k ≤ C ∧ q = .int .i64 k ∧ l = .slice ro rn rc ∧ rn ≤ k ∧ Hid (VsW w wr (.slice ro rn rc) rn G) ∧ Hid (varsL (pl.take k) = G)) (fun _ q _ => C - (intOf q).toNat)
  case atStart => exact ⟨0, [], none, 0, 0, Nat.zero_le _, rfl, rfl, Nat.le_refl _, HM0, rfl⟩
  case round =>
    obtain ⟨k, G, ro, rn, rc, hk, rfl, rfl, hrn, HW, HG⟩ := hrel
    clear HM0
    by_cases hlt : k < C
    · have hki : (k : Int) < (C : Int) := by omega
      have hk0 : (0 : Int) ≤ (k : Int) := by omega
      obtain ⟨t, ht⟩ : ∃ t, pl[k]? = some t := ⟨_, List.getElem?_eq_getElem (by rw [HC.out]; exact hlt)⟩
      obtain ⟨b, o, rfl, c0, c1, c2, c3, c4, c5⟩ := (HTs.out.next HW.out.bel) k t ht
      have HT : Hid (varsL (pl.take (k + 1)) = varOne G t) := by rw [Hid, vars_go ht, HG.out]
      obtain ⟨tp, tn, tv, tk, ti, ts⟩ := t
      simp only at c0 c1 c2 c3 c4 c5
      have HWn : Hid (VsW w (wr.alloc (.cells #[.int .i64 (tp : Int), .bool tn, .string tv, .int .i64 tk, .int .i64 ti, .string ts] 88)) (.slice ro rn rc) rn G) := HW.out.next (alloc_below _ _)
      clear ht HG
      by_cases hx : tv = noS
      · have he := isE_yes hx
        have HG2 : Hid (varsL (pl.take (k + 1)) = G) := by rw [Hid, HT.out]; exact varOne_val hx
        clear hx HT HW
        go_wp2
        go_roundw
        case rel => exact ⟨k + 1, G, ro, rn, rc, by omega, by go_num, rfl, by omega, HWn, HG2⟩
        case measure => simp [intOf]; omega
      have he := isE_no hx
      cases tn with
      | true =>
        have HG2 : Hid (varsL (pl.take (k + 1)) = G) := by rw [Hid, HT.out]; exact varOne_not rfl
        clear hx HT HW
        go_wp2
        go_roundw
        case rel => exact ⟨k + 1, G, ro, rn, rc, by omega, by go_num, rfl, by omega, HWn, HG2⟩
        case measure => simp [intOf]; omega
      | false =>
        obtain ⟨W3, HW3⟩ : ∃ W3, Hid (wr.alloc (.cells #[.int .i64 (tp : Int), .bool false, .string tv, .int .i64 tk, .int .i64 ti, .string ts] 88) = W3) := ⟨_, rfl⟩
        rw [HW3.out] at HWn
        have HT3 : Hid (Bx W3 wr.heap.size #[.int .i64 (tp : Int), .bool false, .string tv, .int .i64 tk, .int .i64 ti, .string ts]) := Bx.made' HW3.out rfl
        obtain ⟨P, HP⟩ : ∃ P, Hid (anyN G tv = P) := ⟨_, rfl⟩
        have HCt : Hid (Calls Tryz.prog 65 #[.slice ro rn rc, .string tv] W3 fun e w' => e = .returned (.bool P) ∧ w' = W3) := by
          obtain ⟨ro', rc', he1, he2, _⟩ := own_strs HWn.out.len HWn.out.own
          cases he1
          rw [← HP.out]
          exact hass_any G rn ro rc tv W3 HWn.out.len (by omega) he2
        have HV1 : Hid (varOne G ⟨tp, false, tv, tk, ti, ts⟩ = if P = true then G else G ++ [tv]) := by rw [Hid, ← HP.out]; exact varOne_any hx rfl
        have s2 : W3.cell? ⟨wr.heap.size, 2, none⟩ = some (.string tv) := HT3.out.cell 2
        clear hx HP
        cases P with
        | true =>
          have HG2 : Hid (varsL (pl.take (k + 1)) = G) := by rw [Hid, HT.out, HV1.out]; rfl
          clear HT HV1
          go_wp2_with fail
          rw [HW3.out]
          refine HCt.out.mono ?_
          rintro e w4 ⟨rfl, rfl⟩
          clear HW3
          go_wp2
          go_roundw
          case rel => exact ⟨k + 1, G, ro, rn, rc, by omega, by go_num, rfl, by omega, HWn, HG2⟩
          case measure => simp [intOf]; omega
        | false =>
          have HG2 : Hid (varsL (pl.take (k + 1)) = G ++ [tv]) := by rw [Hid, HT.out, HV1.out]; rfl
          clear HT HV1
          obtain ⟨i0, hi, hz0, hz1, hz2⟩ := infoStr'
          have HO4 : Hid (W3.ownsRow (w.heap.size + 1) 9 1 (.slice ro rn rc) rn (strsC G)) := HWn.out.own
          have HOb : Hid (∀ j, (Value.slice ro rn rc).ownBlock = some j → w.heap.size + 1 ≤ j ∧ j < W3.heap.size) := fun j hj => HO4.out.lt j hj
          have hl3 : w.heap.size + 1 ≤ W3.heap.size := HWn.out.lt
          go_wp2_with fail
          rw [HW3.out]
          refine HCt.out.mono ?_
          rintro e w4 ⟨rfl, rfl⟩
          have s2 : w4.cell? ⟨wr.heap.size, 2, none⟩ = some (.string tv) := HT3.out.cell 2
          clear HW3 HCt
          go_wp2_with (at_builtin; refine wpList_append_own _ rfl _ _ 61 rfl (w.heap.size + 1) 9 i0 (.string ⟨#[]⟩) 1 16 Tryz.underlying61 hi hz0 hz1 hz2 rfl (by decide) _ _ _ rfl (HO4.out.alloc _) ⟨w4.heap.size, 0, none⟩ 1 1 [.string tv] rfl rfl ?e1 ?e2 ?e3 ?e4 ?e5 ?_)
          case e1 =>
            intro j u hj
            match j, hj with
            | 0, hj => simp at hj; subst hj; simp [Addr.add]
          case e2 => intro u hu; simp at hu; subst hu; rfl
          case e3 => unfold maxLen; omega
          case e4 => omega
          case e5 => simp; omega
          intro s2' w7 ho hg _
          have HW7 : Hid (VsW w w7 s2' (rn + 1) (G ++ [tv])) := by
            have hs := HWn.out.bel.size
            have hsg := hg.size
            refine ⟨?_, ?_, ?_, ?_⟩
            · refine HWn.out.bel.trans (((Below.refl _ w4).alloc hs _).grown hg (by simp; omega) (fun k hk => ?_))
              have := (HOb.out k hk).1
              omega
            · rw [← strsC_snoc]; exact ho
            · rw [List.length_append, HWn.out.len]; rfl
            · simp at hsg; omega
          obtain ⟨ro2, rc2, hs2, _, _⟩ := own_strs HW7.out.len HW7.out.own
          subst hs2
          clear ho hg HO4 HOb hi hz0 hz1 hz2 HWn
          go_wp2
          go_roundw
          case rel => exact ⟨k + 1, _, ro2, rn + 1, rc2, by omega, by go_num, rfl, by omega, HW7, HG2⟩
          case measure => simp [intOf]; omega
    · have hki : ¬ (k : Int) < (C : Int) := by omega
      obtain rfl : Q = G := by rw [← HQ.out, ← HG.out, List.take_of_length_le (by rw [HC.out]; omega)]
      obtain ⟨ro2, rc2, hs2, hsl, _⟩ := own_strs HW.out.len HW.out.own
      cases hs2
      have HSl : Hid (StrsA wr ro Q) := hsl
      have HBe : Hid (Below w.heap.size w wr) := HW.out.bel
      have hlen := HW.out.len
      clear hsl HW HG
      go_wp2
      go_ret
      exact ⟨⟨ro, rc, by rw [hlen]; rfl, HSl.out⟩, HBe.out⟩
end Go.Proofs.YtnhbjhdkpbhioaaGreatDoor
