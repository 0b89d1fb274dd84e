import Derived.Test.YtnhbjhdkpbhioaaGreatDoorPtVars
import Derived.Deep.RegionHeld3
namespace Go.Proofs.YtnhbjhdkpbhioaaGreatDoor
open Go.RowKit
def putN (L : List ByteArray) (m : ByteArray) : List ByteArray := if anyN L m = true then L else L ++ [m]
theorem putN_len (L : List ByteArray) (m : ByteArray) : (putN L m).length ≤ L.length + 1 := by
  unfold putN
  split <;> simp
set_option maxHeartbeats 4000000 in
set_option maxRecDepth 8000 in
theorem rhas_any (L : List ByteArray) (N : Nat) (ao : Option Addr) (cap : Nat) (m : ByteArray) (w : World) (hL : L.length = N) (hN : N ≤ 100000) (h : StrsA w ao L) :
    Calls Tryz.prog 100 #[.slice ao N cap, .string m] w fun e w' => e = .returned (.bool (anyN L m)) ∧ w' = w := by
  have HL : Hid (L.length = N) := hL
  have HI : Hid (StrsA w ao L) := h
  obtain ⟨P, HP⟩ : ∃ P, Hid (anyN L m = P) := ⟨_, rfl⟩
  rw [HP.out]
  clear hL h
  go_enter Tryz.func100, Tryz.ntmps100
  go_wp2
  go_loop [5] (fun q => ∃ k : Nat, k ≤ N ∧ q = .int .i64 k ∧ Hid (∀ i s, i < k → L[i]? = some s → s ≠ m)) (fun q => N - (intOf q).toNat)
  case atStart => exact ⟨0, Nat.zero_le _, rfl, fun m s hm => absurd hm (by omega)⟩
  case round =>
    obtain ⟨k, hk, rfl, HA⟩ := hrel
    by_cases hlt : k < N
    · have hki : (k : Int) < (N : Int) := by omega
      have hk0 : (0 : Int) ≤ (k : Int) := by omega
      obtain ⟨s, hs⟩ : ∃ s, L[k]? = some s := ⟨_, List.getElem?_eq_getElem (by rw [HL.out]; exact hlt)⟩
      obtain ⟨bq, o, rfl, c0⟩ := HI.out k s hs
      have HS : Hid (L[k]? = some s) := hs
      clear hs
      by_cases he : s = m
      · have hd : (s.toList == m.toList) = true := by rw [beq_ba]; exact decide_eq_true he
        obtain rfl : P = true := by rw [← HP.out]; exact anyN_yes HS.out he
        clear HA HS he HP HI
        go_wp2
        go_ret
        exact ⟨rfl, rfl⟩
      · have hd : (s.toList == m.toList) = false := by rw [beq_ba]; exact decide_eq_false he
        have HA2 : Hid (∀ i s, i < k + 1 → L[i]? = some s → s ≠ m) := fun i s hi his => by
          by_cases e : i = k
          · subst e; rw [HS.out] at his; cases his; exact he
          · exact HA.out i s (by omega) his
        clear HA HS he
        go_wp2
        go_round
        case rel => exact ⟨k + 1, by omega, by go_num, HA2⟩
        case measure => simp [intOf]; omega
    · have hki : ¬ (k : Int) < (N : Int) := by omega
      obtain rfl : P = false := by
        rw [← HP.out]
        exact anyN_no fun i s hi => HA.out i s (by have := (List.getElem?_eq_some_iff.1 hi).1; rw [HL.out] at this; omega) hi
      clear HA HP HI
      go_wp2
      go_ret
      exact ⟨rfl, rfl⟩
def PuE (w' : World) (L : List ByteArray) (e : Ending) : Prop := ∃ ro rn rc, e = .returned (.slice ro rn rc) ∧ L.length = rn ∧ StrsA w' ro L ∧ (ro = none → rn = 0 ∧ rc = 0)
set_option maxHeartbeats 8000000 in
set_option maxRecDepth 8000 in
theorem rput_any (L : List ByteArray) (N : Nat) (ao : Option Addr) (cap : Nat) (m : ByteArray) (w : World) (hL : L.length = N) (hN : N ≤ 900) (h : StrsA w ao L) (hn : ao = none → N = 0 ∧ cap = 0) :
    Calls Tryz.prog 66 #[.slice ao N cap, .string m] w fun e w' => PuE w' (putN L m) e ∧ Below w.heap.size w w' := by
  obtain ⟨P, HP⟩ : ∃ P, Hid (anyN L m = P) := ⟨_, rfl⟩
  have HH : Hid (Calls Tryz.prog 100 #[.slice ao N cap, .string m] w fun e w' => e = .returned (.bool P) ∧ w' = w) := by
    rw [← HP.out]; exact rhas_any L N ao cap m w hL (by omega) h
  obtain ⟨Q, HQ⟩ : ∃ Q, Hid (putN L m = Q) := ⟨_, rfl⟩
  rw [HQ.out]
  cases P with
  | true =>
    have HE : Hid (PuE w Q (.returned (.slice ao N cap))) := by
      have : Q = L := by rw [← HQ.out]; unfold putN; rw [HP.out]; rfl
      rw [this]
      exact ⟨ao, N, cap, rfl, hL, h, hn⟩
    clear hL h hn HP HQ
    go_enter Tryz.func66, Tryz.ntmps66
    go_wp2_with fail
    refine HH.out.mono ?_
    rintro e w1 ⟨rfl, rfl⟩
    clear HH
    go_wp2
    go_ret
    exact ⟨HE.out, Below.refl _ _⟩
  | false =>
    have HQe : Hid (Q = L ++ [m]) := by rw [Hid, ← HQ.out]; unfold putN; rw [HP.out]; rfl
    have HL : Hid (L.length = N) := hL
    have hv1 : StrsA (w.alloc (.cells #[] 9)) ao L := h.next (alloc_below _ _)
    obtain ⟨v', w2, hr, hown, hg⟩ := append_strs (cap := cap) (base := w.heap.size) (World.ownsRow_made w #[] 0 (Nat.le_refl _) (Nat.zero_le _) (by simp)) hL hv1 hn (by omega) (by omega) (by simp)
    rw [Nat.zero_add, List.nil_append] at hown
    obtain ⟨a', c', rfl, _, _⟩ := own_strs hL hown
    have HB2 : Hid (Below w.heap.size w w2) := ((Below.refl _ w).alloc (Nat.le_refl _) _).grown hg (by simp) (by intro k hk; simp [Value.ownBlock] at hk; omega)
    have HO2 : Hid (w2.ownsRow w.heap.size 9 1 (.slice a' N c') N (strsC L)) := hown
    have HOb : Hid (∀ j, (Value.slice a' N c').ownBlock = some j → w.heap.size ≤ j ∧ j < w2.heap.size) := fun j hj => HO2.out.lt j hj
    obtain ⟨i0, hi, hz0, hz1, hz2⟩ := infoStr'
    clear hL h hn HP HQ hown hv1 hg
    go_enter Tryz.func66, Tryz.ntmps66
    go_wp2_with fail
    refine HH.out.mono ?_
    rintro e w1 ⟨rfl, rfl⟩
    clear HH
    have hsz : w1.heap.size ≤ w2.heap.size := HB2.out.size
    go_wp2_with (at_builtin; first
      | (refine wpList_append_runB _ rfl _ _ 61 rfl _ _ _ _ rfl rfl hr ?_)
      | (refine wpList_append_own _ rfl _ _ 61 rfl w1.heap.size 9 i0 (.string ⟨#[]⟩) 1 16 Tryz.underlying61 hi hz0 hz1 hz2 rfl (by decide) _ _ _ rfl (HO2.out.alloc _) ⟨w2.heap.size, 0, none⟩ 1 1 [.string m] rfl rfl ?e1 ?e2 ?e3 ?e4 ?e5 ?_))
    case e1 =>
      intro j u hj
      match j, hj with
      | 0, hj => simp at hj; subst hj; simp [Addr.add]
    case e2 => intro u hu; simp at hu; subst hu; rfl
    case e3 => unfold maxLen; omega
    case e4 => omega
    case e5 => simp; omega
    intro s2' w7 ho hg _
    have HB7 : Hid (Below w1.heap.size w1 w7) := by
      refine HB2.out.trans (((Below.refl _ w2).alloc hsz _).grown hg (by simp; omega) (fun k hk => ?_))
      exact (HOb.out k hk).1
    have hlen : Q.length = N + 1 := by rw [HQe.out, List.length_append, HL.out]; rfl
    have ho2 : w7.ownsRow w1.heap.size 9 1 s2' (N + 1) (strsC Q) := by rw [HQe.out, ← strsC_snoc]; exact ho
    obtain ⟨ro2, rc2, hs2, hsl, _⟩ := own_strs hlen ho2
    subst hs2
    have HE : Hid (PuE w7 Q (.returned (.slice ro2 (N + 1) rc2))) := by
      refine ⟨_, _, _, rfl, hlen, hsl, fun e => ?_⟩
      subst e
      obtain ⟨b, o, h1, _⟩ := hsl 0 (Q[0]'(by omega)) (List.getElem?_eq_getElem (by omega))
      cases h1
    clear hr ho hg ho2 hsl HB2 HO2 HOb hi hz0 hz1 hz2
    go_wp2
    go_ret
    exact ⟨HE.out, HB7.out⟩
set_option maxHeartbeats 8000000 in
set_option maxRecDepth 8000 in
theorem rvars_any (P : Ptn) (po : Option Addr) (pc : Nat) (w : World) (hP : P.l.length ≤ 800) (hs : IsTss w po P.l) :
    Calls Tryz.prog 24 #[ptV P po pc] w fun e w' => PuE w' (varsL P.l) e ∧ Below w.heap.size w w' := by
  obtain ⟨pt, pl⟩ := P
  unfold ptV
  simp only at hP hs ⊢
  obtain ⟨Q, HQ⟩ : ∃ Q, Hid (varsL pl = Q) := ⟨_, rfl⟩
  rw [HQ.out]
  obtain ⟨C, HC⟩ : ∃ C, Hid (pl.length = C) := ⟨_, rfl⟩
  rw [HC.out] at hP ⊢
  have HTs : Hid (IsTss w po pl) := hs
  clear hs
  obtain ⟨B, HB⟩ : ∃ B, Hid (w.heap.size = B) := ⟨_, rfl⟩
  obtain ⟨W, HWe⟩ : ∃ W, Hid (w.alloc (.cells #[.string pt, .slice po C pc] 49) = W) := ⟨_, rfl⟩
  have HBW : Hid (Below w.heap.size w W) := by rw [← HWe.out]; exact alloc_below _ _
  have HX : Hid (Bx W B #[.string pt, .slice po C pc]) := Bx.made' HWe.out HB.out
  go_enter Tryz.func24, Tryz.ntmps24
  go_wp2
  rw [HWe.out, HB.out]
  clear HWe
  go_loopw [3, 4] (fun l q wr => ∃ (k : Nat) (G : List ByteArray) (ro : Option Addr) (rn rc : Nat), k ≤ C ∧ q = .int .i64 k ∧ l = .slice ro rn rc ∧ rn ≤ k ∧ Hid (G.length = rn ∧ StrsA wr ro G ∧ (ro = none → rn = 0 ∧ rc = 0)) ∧ Hid (Below W.heap.size W wr) ∧ Hid (varsL (pl.take k) = G)) (fun _ q _ => C - (intOf q).toNat)
  case atStart => exact ⟨0, [], none, 0, 0, Nat.zero_le _, rfl, rfl, Nat.le_refl _, ⟨rfl, StrsA.nil _ _, fun _ => ⟨rfl, rfl⟩⟩, Below.refl _ _, rfl⟩
  case round =>
    obtain ⟨k, G, ro, rn, rc, hk, rfl, rfl, hrn, HG, HBr, HV⟩ := hrel
    have x1 : wr.cell? ⟨B, 1, none⟩ = some (.slice po C pc) := (HX.out.next HBr.out).cell 1
    by_cases hlt : k < C
    · have hki : (k : Int) < (C : Int) := by omega
      have hk0 : (0 : Int) ≤ (k : Int) := by omega
      obtain ⟨t, ht⟩ : ∃ t, pl[k]? = some t := ⟨_, List.getElem?_eq_getElem (by rw [HC.out]; exact hlt)⟩
      obtain ⟨b, o, rfl, c0, c1, c2, c3, c4, c5⟩ := (HTs.out.next (next_trans HBW.out HBr.out)) k t ht
      have HT : Hid (varsL (pl.take (k + 1)) = varOne G t) := by rw [Hid, vars_go ht, HV.out]
      obtain ⟨tp, tn, tv, tk, ti, ts⟩ := t
      simp only at c0 c1 c2 c3 c4 c5
      clear ht HV c0 c3 c4 c5
      by_cases hx : tv = noS
      · have he := isE_yes hx
        have HG2 : Hid (varsL (pl.take (k + 1)) = G) := by rw [Hid, HT.out]; exact varOne_val hx
        clear hx HT
        go_wp2
        go_roundw
        case rel => exact ⟨k + 1, G, ro, rn, rc, by omega, by go_num, rfl, by omega, HG, HBr, HG2⟩
        case measure => simp [intOf]; omega
      have he := isE_no hx
      cases tn with
      | true =>
        have HG2 : Hid (varsL (pl.take (k + 1)) = G) := by rw [Hid, HT.out]; exact varOne_not rfl
        clear hx HT
        go_wp2
        go_roundw
        case rel => exact ⟨k + 1, G, ro, rn, rc, by omega, by go_num, rfl, by omega, HG, HBr, HG2⟩
        case measure => simp [intOf]; omega
      | false =>
        have HG2 : Hid (varsL (pl.take (k + 1)) = putN G tv) := by rw [Hid, HT.out]; exact varOne_any hx rfl
        have HPu : Hid (Calls Tryz.prog 66 #[.slice ro rn rc, .string tv] wr fun e w' => PuE w' (putN G tv) e ∧ Below wr.heap.size wr w') := rput_any G rn ro rc tv wr HG.out.1 (by omega) HG.out.2.1 HG.out.2.2
        have hln : (putN G tv).length ≤ rn + 1 := by have := putN_len G tv; rw [HG.out.1] at this; exact this
        clear hx HT HG
        go_wp2_with fail
        refine HPu.out.mono ?_
        rintro e w4 ⟨⟨ro2, rn2, rc2, rfl, hq1, hq2, hq3⟩, hb4⟩
        have HB4 : Hid (Below W.heap.size W w4) := next_trans HBr.out hb4
        have HQ4 : Hid ((putN G tv).length = rn2 ∧ StrsA w4 ro2 (putN G tv) ∧ (ro2 = none → rn2 = 0 ∧ rc2 = 0)) := ⟨hq1, hq2, hq3⟩
        rw [hq1] at hln
        clear hq1 hq2 hq3 hb4 HPu c1 c2 x1
        go_wp2
        go_roundw
        case rel => exact ⟨k + 1, _, ro2, rn2, rc2, by omega, by go_num, rfl, by omega, HQ4, HB4, HG2⟩
        case measure => simp [intOf]; omega
    · have hki : ¬ (k : Int) < (C : Int) := by omega
      obtain rfl : Q = G := by rw [← HQ.out, ← HV.out, List.take_of_length_le (by rw [HC.out]; omega)]
      have HBe : Hid (Below w.heap.size w wr) := next_trans HBW.out HBr.out
      have HE : Hid (PuE wr Q (.returned (.slice ro rn rc))) := ⟨ro, rn, rc, rfl, HG.out.1, HG.out.2.1, HG.out.2.2⟩
      clear HG HV HBr
      go_wp2
      go_ret
      exact ⟨HE.out, HBe.out⟩
set_option linter.unusedSimpArgs false in
set_option maxHeartbeats 8000000 in
set_option maxRecDepth 8000 in
theorem lnames_any (L : List ByteArray) (N : Nat) (ao bo : Option Addr) (ca cb : Nat) (w : World) (hL : L.length = N) (hN : N ≤ 1000) (h : StrsA w ao L) (h2 : StrsA w bo L) :
    Calls Tryz.prog 22 #[.slice ao N ca, .slice bo N cb] w fun e w' => e = .returned (.bool true) ∧ Below w.heap.size w w' := by
  have HL : Hid (L.length = N) := hL
  have HI : Hid (StrsA w ao L) := h
  have HJ : Hid (StrsA w bo L) := h2
  clear h h2 hL
  go_enter Tryz.func22, Tryz.ntmps22
  go_wp2
  go_loopw [5] (fun q wr => ∃ k : Nat, k ≤ N ∧ q = .int .i64 k ∧ Hid (Below w.heap.size w wr)) (fun q _ => N - (intOf q).toNat)
  case atStart => exact ⟨0, Nat.zero_le _, rfl, Below.refl _ _⟩
  case round =>
    obtain ⟨k, hk, rfl, HB⟩ := hrel
    by_cases hlt : k < N
    · have hki : (k : Int) < (N : Int) := by omega
      have hk0 : (0 : Int) ≤ (k : Int) := by omega
      obtain ⟨s, hs⟩ : ∃ s, L[k]? = some s := ⟨_, List.getElem?_eq_getElem (by rw [HL.out]; exact hlt)⟩
      obtain ⟨b, o, rfl, c0⟩ := (HI.out.next HB.out) k s hs
      obtain ⟨d, p, rfl, d0⟩ := (HJ.out.next HB.out) k s hs
      have hd : (s.toList == s.toList) = true := beq_self_eq_true _
      clear hs
      go_wp2
      refine wp_region_held_drew (S := (fun w' => w'.cell? ⟨b, o + k, none⟩ = some (.string s) ∧ w'.cell? ⟨d, p + k, none⟩ = some (.string s) ∧ Below wr.heap.size wr w' ∧ wr.heap.size ≤ w'.heap.size)) (by kernel_rfl) ?_ (fun hHeldA => ?_)
      · exact ⟨c0, d0, (Below.refl _ _).drew, (Below.refl wr.heap.size wr).drew.size⟩
      refine wpAnyH_take (i := 0) (oi := { dst := some 17, op := Op.move (Operand.tmp 0), type := 61, pos := "law.go:67", after := #[], guard := none }) (v := ?_) rfl (by kernel_rfl) (by kernel_rfl) (by kernel_rfl) (fun _ _ _ h => h) (Or.inl ⟨by rfl, ?hyA0⟩) (by assumption) ?_
      case hyA0 => (intro w hSw; (try dsimp only at hSw); go_simp; try with_reducible rfl)
      (try simp only [Act.put, List.setIfInBounds_toArray, List.set_cons_zero, List.set_cons_succ])
      refine wpAnyH_take (i := 1) (oi := { dst := some 18, op := Op.move (Operand.tmp 5), type := 3, pos := "law.go:67", after := #[], guard := none }) (v := ?_) rfl (by kernel_rfl) (by kernel_rfl) (by kernel_rfl) (fun _ _ _ h => h) (Or.inl ⟨by rfl, ?hyA1⟩) (by assumption) ?_
      case hyA1 => (intro w hSw; (try dsimp only at hSw); go_simp; try with_reducible rfl)
      (try simp only [Act.put, List.setIfInBounds_toArray, List.set_cons_zero, List.set_cons_succ])
      refine wpAnyH_take (i := 2) (oi := { dst := some 19, op := Op.indexAddr 61 (Operand.tmp 17) (Operand.tmp 18), type := 0, pos := "law.go:67", after := #[{ on := 0, ground := Ground.data }, { on := 1, ground := Ground.data }], guard := none }) (v := ?_) rfl (by kernel_rfl) (by kernel_rfl) (by kernel_rfl) (fun _ _ _ h => h) (Or.inl ⟨by rfl, ?hyA2⟩) (by assumption) ?_
      case hyA2 => (intro w hSw; (try dsimp only at hSw); go_simp; try with_reducible rfl)
      (try simp only [Act.put, List.setIfInBounds_toArray, List.set_cons_zero, List.set_cons_succ])
      refine wpAnyH_take (i := 3) (oi := { dst := some 20, op := Op.load 9 (Operand.tmp 19), type := 9, pos := "law.go:67", after := #[{ on := 2, ground := Ground.data }], guard := none }) (v := ?_) rfl (by kernel_rfl) (by kernel_rfl) (by kernel_rfl) (fun _ _ _ h => h) (Or.inl ⟨by rfl, ?hyA3⟩) (by assumption) ?_
      case hyA3 => (intro w hSw; (try dsimp only at hSw); go_simp; try with_reducible rfl)
      (try simp only [Act.put, List.setIfInBounds_toArray, List.set_cons_zero, List.set_cons_succ])
      refine wpAnyH_take (i := 4) (oi := { dst := some 21, op := Op.move (Operand.tmp 1), type := 61, pos := "law.go:67", after := #[], guard := none }) (v := ?_) rfl (by kernel_rfl) (by kernel_rfl) (by kernel_rfl) (fun _ _ _ h => h) (Or.inl ⟨by rfl, ?hyA4⟩) (by assumption) ?_
      case hyA4 => (intro w hSw; (try dsimp only at hSw); go_simp; try with_reducible rfl)
      (try simp only [Act.put, List.setIfInBounds_toArray, List.set_cons_zero, List.set_cons_succ])
      refine wpAnyH_take (i := 5) (oi := { dst := some 22, op := Op.move (Operand.tmp 5), type := 3, pos := "law.go:67", after := #[], guard := none }) (v := ?_) rfl (by kernel_rfl) (by kernel_rfl) (by kernel_rfl) (fun _ _ _ h => h) (Or.inl ⟨by rfl, ?hyA5⟩) (by assumption) ?_
      case hyA5 => (intro w hSw; (try dsimp only at hSw); go_simp; try with_reducible rfl)
      (try simp only [Act.put, List.setIfInBounds_toArray, List.set_cons_zero, List.set_cons_succ])
      refine wpAnyH_take (i := 6) (oi := { dst := some 23, op := Op.indexAddr 61 (Operand.tmp 21) (Operand.tmp 22), type := 0, pos := "law.go:67", after := #[{ on := 4, ground := Ground.data }, { on := 5, ground := Ground.data }], guard := none }) (v := ?_) rfl (by kernel_rfl) (by kernel_rfl) (by kernel_rfl) (fun _ _ _ h => h) (Or.inl ⟨by rfl, ?hyA6⟩) (by assumption) ?_
      case hyA6 => (intro w hSw; (try dsimp only at hSw); go_simp; try with_reducible rfl)
      (try simp only [Act.put, List.setIfInBounds_toArray, List.set_cons_zero, List.set_cons_succ])
      refine wpAnyH_take (i := 7) (oi := { dst := some 24, op := Op.load 9 (Operand.tmp 23), type := 9, pos := "law.go:67", after := #[{ on := 6, ground := Ground.data }], guard := none }) (v := ?_) rfl (by kernel_rfl) (by kernel_rfl) (by kernel_rfl) (fun _ _ _ h => h) (Or.inl ⟨by rfl, ?hyA7⟩) (by assumption) ?_
      case hyA7 => (intro w hSw; (try dsimp only at hSw); go_simp; try with_reducible rfl)
      (try simp only [Act.put, List.setIfInBounds_toArray, List.set_cons_zero, List.set_cons_succ])
      refine wpAnyH_take (i := 8) (oi := { dst := some 25, op := Op.binOp BinOp.neq 9 (Operand.tmp 20) (Operand.tmp 24) 9, type := 4, pos := "law.go:67", after := #[{ on := 3, ground := Ground.data }, { on := 7, ground := Ground.data }], guard := none }) (v := ?_) rfl (by kernel_rfl) (by kernel_rfl) (by kernel_rfl) (fun _ _ _ h => h) (Or.inl ⟨by rfl, ?hyA8⟩) (by assumption) ?_
      case hyA8 => (intro w hSw; (try dsimp only at hSw); go_simp; try with_reducible rfl)
      (try simp only [Act.put, List.setIfInBounds_toArray, List.set_cons_zero, List.set_cons_succ])
      refine wpAnyH_done (by kernel_rfl) ?_ _
      obtain ⟨-, -, hB8, -⟩ := hHeldA
      have HB8 : Hid (Below w.heap.size w _) := next_trans HB.out hB8
      clear hB8
      go_wp2
      go_roundw
      case rel => exact ⟨k + 1, by omega, by go_num, HB8⟩
      case measure => simp [intOf]; omega
    · have hki : ¬ (k : Int) < (N : Int) := by omega
      go_wp2
      go_ret
      exact ⟨rfl, HB.out⟩
end Go.Proofs.YtnhbjhdkpbhioaaGreatDoor
