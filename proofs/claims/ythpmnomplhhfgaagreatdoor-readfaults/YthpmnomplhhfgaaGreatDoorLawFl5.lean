/- The walk of ReadFaults. -/
import Derived.Test.YthpmnomplhhfgaaGreatDoorG21
import Derived.Test.YthpmnomplhhfgaaGreatDoorSxIn
namespace Go.Proofs.YthpmnomplhhfgaaGreatDoor
open Go.RowKit

def StrsAt (w : World) (ao : Option Addr) (L : List ByteArray) : Prop := ∀ j s, L[j]? = some s → ∃ b o, ao = some ⟨b, o, none⟩ ∧ w.cell? ⟨b, o + j, none⟩ = some (.string s)
def IntsAt (w : World) (ao : Option Addr) (Z : List Int) : Prop := ∀ j z, Z[j]? = some z → ∃ b o, ao = some ⟨b, o, none⟩ ∧ w.cell? ⟨b, o + j, none⟩ = some (.int .i64 z)
theorem StrsAt.next {w w' : World} {ao : Option Addr} {L : List ByteArray} (h : StrsAt w ao L) (hb : Below w.heap.size w w') : StrsAt w' ao L := fun j s hj => by
  obtain ⟨b, o, h1, h2⟩ := h j s hj
  exact ⟨b, o, h1, keep_cell hb h2⟩
theorem IntsAt.next {w w' : World} {ao : Option Addr} {Z : List Int} (h : IntsAt w ao Z) (hb : Below w.heap.size w w') : IntsAt w' ao Z := fun j z hj => by
  obtain ⟨b, o, h1, h2⟩ := h j z hj
  exact ⟨b, o, h1, keep_cell hb h2⟩
theorem Chain.set {w : World} {P T : Nat} {x y : Value} {e : Int} (hT : Two w P T x y) (j : Nat) (u : Value) : ∀ {ps : List Pt} {v : Value}, Chain w e ps v → Chain (w.setCell ⟨P, j, none⟩ u) e ps v
  | [], _, h => h
  | p :: r, v, ⟨B, v', h1, h2, h3, h4, h5⟩ => by
    have hne : B ≠ P := hT.ne (by omega) h4
    have hb : (w.setCell ⟨P, j, none⟩ u).heap[B]? = w.heap[B]? := Below.heap_setCell _ _ _ _ hne
    exact ⟨B, v', h1, by rw [World.cell?_of_block (a := ⟨B, 0, none⟩) hb]; exact h2, by rw [World.cell?_of_block (a := ⟨B, 1, none⟩) hb]; exact h3, by rw [World.cell?_of_block (a := ⟨B, 2, none⟩) hb]; exact h4, Chain.set hT j u h5⟩
theorem PtsC.set {w : World} {P j g : Nat} {u : Value} {ps : List Pt} (h : PtsC w (some ⟨g, 0, none⟩) ps) (hg : g ≠ P) : PtsC (w.setCell ⟨P, j, none⟩ u) (some ⟨g, 0, none⟩) ps := by
  rcases h with ⟨_, h⟩ | ⟨h0, b, o, h1, h2⟩
  · cases h
  · have e := Option.some.inj h1
    simp only [Addr.mk.injEq] at e
    obtain ⟨rfl, rfl, _⟩ := e
    exact .inr ⟨h0, g, 0, rfl, fun j u hu => by
      rw [World.cell?_of_block (a := ⟨g, 0 + j, none⟩) (Below.heap_setCell _ _ _ _ hg)]; exact h2 j u hu⟩
theorem tells_all (n : Int) (ps : List Pt) (v : Value) (ao : Option Addr) (cap : Nat) (w : World) (hC : Chain w n ps v) (hP : PtsAt w ao ps) (hg : ErrW w) (ht : TabW w) (h1 : 1 ≤ n) (h2 : n ≤ 11) (hl : ps.length ≤ 1000) (hp : ∀ q ∈ ps, q.1.length ≤ 1000 ∧ inB q.2 = true) :
    Calls Tryz.prog 12 #[v, .agg #[.slice ao ps.length cap, .int .i64 n]] w fun e w' => e = .returned (.bool true) ∧ Below w.heap.size w w' := by
  cases ps with
  | nil =>
    have hv : v = .iface 58 (.int .i64 n) := hC
    subst hv
    exact tells_err n ao cap w hg ht h1 h2
  | cons p r => exact tells_flt n p r v ao cap w hC hP hg ht h1 h2 hl hp
def flPts (L : List ByteArray) (Z : List Int) : List Pt := (L.zip Z).map fun p => (p.1.data.toList, p.2)
theorem baL_self (s : ByteArray) : baL s.data.toList = s := ByteArray.ext (by show s.data.toList.toArray = s.data; simp)
/-- The parts that there are from one on. -/
structure FlAt (w wr : World) (P : Nat) (e : Int) (n k : Nat) (FP : List Pt) (v : Value) (a : Option Addr) (c : Nat) : Prop where
  bel : Below w.heap.size w wr
  two : Two wr P 32 (.slice a (n - k) c) (.int .i64 e)
  ch : Chain wr e (FP.drop k) v
  pts : PtsC wr a (FP.drop k)
  cap : FP.drop k = [] → c = 0
  len : (FP.drop k).length = n - k
  sh : ∀ p ∈ FP.drop k, p.1.length ≤ 50
theorem FlAt.iface {w wr : World} {P : Nat} {e : Int} {n k : Nat} {FP : List Pt} {v : Value} {a : Option Addr} {c : Nat} (h : FlAt w wr P e n k FP v a c) : ∃ ty y, v = .iface ty y := h.ch.iface

set_option maxHeartbeats 16000000 in
set_option maxRecDepth 20000 in
theorem faults5_walk (ao : Option Addr) (n cap : Nat) (L : List ByteArray) (ao' : Option Addr) (n' cap' : Nat) (Z : List Int) (e : Int) (w : World) (hl : L.length = n) (hS : StrsAt w ao L) (hl' : Z.length = n') (hZ : IntsAt w ao' Z) (hZb : ∀ z ∈ Z, inB z = true) (_he : inB e = true) (h4 : Lib4 w) :
    Calls Tryz.prog 6 #[.slice ao n cap, .slice ao' n' cap', .int .i64 e] w fun e w' => e = .returned (.bool true) ∧ Below w.heap.size w w' := by
  have H4 : Hid (Lib4 w) := h4
  have HS : Hid (StrsAt w ao L) := hS
  have HZ : Hid (IntsAt w ao' Z) := hZ
  have HL : Hid (L.length = n) := hl
  have HL' : Hid (Z.length = n') := hl'
  have HZb : Hid (∀ z ∈ Z, inB z = true) := hZb
  clear hl hl' hS hZ hZb h4
  go_enter Tryz.func6, Tryz.ntmps6
  go_wp2_with fail
  refine (known5 w H4.out).mono ?_
  rintro e' w1 ⟨rfl, hb1⟩
  have HB1 : Hid (Below w.heap.size w w1) := hb1
  clear hb1
  by_cases hn : 20 < n
  · have hni : (20 : Int) < (n : Int) := by omega
    go_wp2
    go_ret
    exact ⟨rfl, HB1.out⟩
  have hni : ¬ (20 : Int) < (n : Int) := by omega
  by_cases hnn : n' < n
  · have hnni : (n' : Int) < (n : Int) := by omega
    go_wp2
    go_ret
    exact ⟨rfl, HB1.out⟩
  have hnni : ¬ (n' : Int) < (n : Int) := by omega
  by_cases he1 : e < 1
  · go_wp2
    go_ret
    exact ⟨rfl, HB1.out⟩
  by_cases he2 : 11 < e
  · go_wp2
    go_ret
    exact ⟨rfl, HB1.out⟩
  obtain ⟨FP, HFP⟩ : ∃ FP : List Pt, Hid (flPts L Z = FP) := ⟨_, rfl⟩
  have HFl : Hid (FP.length = n) := by rw [Hid, ← HFP.out]; unfold flPts; rw [List.length_map, List.length_zip, HL.out, HL'.out]; omega
  have HAt : Hid (∀ j, j < n → ∃ s z b o b' o', ao = some ⟨b, o, none⟩ ∧ w.cell? ⟨b, o + j, none⟩ = some (.string s) ∧ ao' = some ⟨b', o', none⟩ ∧ w.cell? ⟨b', o' + j, none⟩ = some (.int .i64 z) ∧ FP[j]? = some (s.data.toList, z) ∧ inB z = true) := fun j hj => by
    obtain ⟨s, hs⟩ : ∃ s, L[j]? = some s := ⟨_, List.getElem?_eq_getElem (by rw [HL.out]; exact hj)⟩
    obtain ⟨z, hz⟩ : ∃ z, Z[j]? = some z := ⟨_, List.getElem?_eq_getElem (by rw [HL'.out]; omega)⟩
    obtain ⟨b, o, h1, h2⟩ := HS.out j s hs
    obtain ⟨b', o', h3, h4⟩ := HZ.out j z hz
    refine ⟨s, z, b, o, b', o', h1, h2, h3, h4, ?_, HZb.out z (List.mem_of_getElem? hz)⟩
    rw [← HFP.out]
    unfold flPts
    rw [List.getElem?_map, (List.getElem?_zip_eq_some (z := (s, z))).2 ⟨hs, hz⟩]; rfl
  have HFb : Hid (∀ p ∈ FP, inB p.2 = true) := by
    intro p hp
    obtain ⟨j, hj, rfl⟩ := List.getElem_of_mem hp
    obtain ⟨s, z, _, _, _, _, _, _, _, _, h5, h6⟩ := HAt.out j (by rw [← HFl.out]; exact hj)
    rw [List.getElem?_eq_getElem hj] at h5
    rw [Option.some.inj h5]; exact h6
  obtain ⟨P, HP⟩ : ∃ P, Hid (w1.heap.size = P) := ⟨_, rfl⟩
  have H0 : Hid (FlAt w (w1.alloc (.cells #[.slice none 0 0, .int .i64 e] 32)) P e n n FP (.iface 58 (.int .i64 e)) none 0) := by
    have hd : FP.drop n = [] := List.drop_of_length_le (by rw [HFl.out]; exact Nat.le_refl _)
    refine ⟨next_trans HB1.out (alloc_below _ _), ?_, ?_, ?_, fun _ => rfl, ?_, ?_⟩
    · rw [← HP.out, Nat.sub_self]
      show (w1.heap.push _)[w1.heap.size]? = _
      rw [Array.getElem?_push_size]
    · rw [hd]; rfl
    · rw [hd]; exact .inl ⟨rfl, rfl⟩
    · rw [hd, Nat.sub_self]; rfl
    · rw [hd]; intro p hp; cases hp
  have HPw : Hid (w.heap.size ≤ P) := by rw [Hid, ← HP.out]; exact HB1.out.size
  go_wp2
  rw [HP.out]
  go_loopw [7, 9] (fun v q wr => ∃ (k : Nat) (a : Option Addr) (c : Nat), k ≤ n ∧ q = .int .i64 ((k : Int) - 1) ∧ Hid (FlAt w wr P e n k FP v a c)) (fun _ q _ => (intOf q + 1).toNat)
  case atStart => exact ⟨n, none, 0, Nat.le_refl _, rfl, H0⟩
  case round =>
    obtain ⟨k, a, c, hk, rfl, HF⟩ := hrel
    clear H0
    rcases k with _ | j
    · have e0 : ((0 : Nat) : Int) - 1 = -1 := rfl
      rw [e0]
      obtain ⟨ty, y, rfl⟩ := HF.out.iface
      obtain ⟨N0, HN0⟩ : ∃ N0, Hid (n - 0 = N0) := ⟨_, rfl⟩
      have HTl : Hid (Calls Tryz.prog 12 #[.iface ty y, .agg #[.slice a N0 c, .int .i64 e]] wr fun e w' => e = .returned (.bool true) ∧ Below wr.heap.size wr w') := by
        have h := HF.out
        rw [← HN0.out, ← h.len]
        have h4 := H4.out.next h.bel
        exact tells_all e (FP.drop 0) _ a c wr h.ch h.pts.pts h4.err h4.tab (by omega) (by omega) (by rw [h.len]; omega) (fun q hq => ⟨by have := h.sh q hq; omega, HFb.out q (List.mem_of_mem_drop hq)⟩)
      have t0 := HF.out.two.c0
      have t1 := HF.out.two.c1
      rw [HN0.out] at t0
      have HBr : Hid (Below w.heap.size w wr) := HF.out.bel
      clear HF
      go_wp2_with fail
      refine HTl.out.mono ?_
      rintro e' w2 ⟨rfl, hb2⟩
      have HB2 : Hid (Below w.heap.size w w2) := next_trans HBr.out hb2
      clear hb2 HTl t0 t1
      go_wp2_with fail
      refine (new_any ⟨#[120]⟩ w2).mono ?_
      rintro e' w3 ⟨rfl, hb3⟩
      have HB3 : Hid (Below w.heap.size w w3) := next_trans HB2.out hb3
      have HTs : Hid (Calls Tryz.prog 28 #[.iface 107 (.pointer (some ⟨w2.heap.size, 0, none⟩))] w3 fun e w' => e = .returned (.string ⟨#[63]⟩) ∧ Below w3.heap.size w3 w') := told_s _ w3 (H4.out.next HB3.out).err (H4.out.next HB3.out).tab
      clear hb3
      go_wp2_with fail
      refine HTs.out.mono ?_
      rintro e' w4 ⟨rfl, hb4⟩
      have HB4 : Hid (Below w.heap.size w w4) := next_trans HB3.out hb4
      clear hb4 HTs
      go_wp2_with fail
      refine (new_any ⟨#[120]⟩ w4).mono ?_
      rintro e' w5 ⟨rfl, hb5⟩
      have HB5 : Hid (Below w.heap.size w w5) := next_trans HB4.out hb5
      have HNs : Hid (Calls Tryz.prog 30 #[.iface 107 (.pointer (some ⟨w4.heap.size, 0, none⟩))] w5 fun e w' => e = .returned (.int .i64 2) ∧ Below w5.heap.size w5 w') := number_s _ w5 (H4.out.next HB5.out).err
      clear hb5
      go_wp2_with fail
      refine HNs.out.mono ?_
      rintro e' w6 ⟨rfl, hb6⟩
      have HB6 : Hid (Below w.heap.size w w6) := next_trans HB5.out hb6
      clear hb6
      go_wp2
      go_ret
      exact ⟨rfl, HB6.out⟩
    · have e1 : ((j + 1 : Nat) : Int) - 1 = (j : Int) := by omega
      rw [e1]
      obtain ⟨ty, y, rfl⟩ := HF.out.iface
      obtain ⟨s, z, b, o, b', o', rfl, cs, rfl, cz, hfp, hzb⟩ := HAt.out j (by omega)
      have HBr : Hid (Below w.heap.size w wr) := HF.out.bel
      have ks := keep_cell HBr.out cs
      have kz := keep_cell HBr.out cz
      have hj0 : (0 : Int) ≤ (j : Int) := by omega
      have hjn : (j : Int) < (n : Int) := by omega
      have hjn' : (j : Int) < (n' : Int) := by omega
      have hjn2 : j < n := by omega
      have hjn2' : j < n' := by omega
      have HDr : Hid (FP.drop j = (s.data.toList, z) :: FP.drop (j + 1)) := by
        have hlt := (List.getElem?_eq_some_iff.1 hfp).1
        rw [Hid, List.drop_eq_getElem_cons hlt]
        rw [List.getElem?_eq_getElem hlt] at hfp
        rw [Option.some.inj hfp]
      clear hfp cs cz
      by_cases h50 : 50 < s.size
      · have h50i : (50 : Int) < (s.size : Int) := by omega
        go_wp2
        go_ret
        exact ⟨rfl, HBr.out⟩
      have h50i : ¬ (50 : Int) < (s.size : Int) := by omega
      go_wp2_with fail
      go_region
      obtain ⟨X, HX⟩ : ∃ X, Hid ((wr.alloc (.cells #[.string s, .int .i64 z, .iface ty y] 61)).drew = X) := ⟨_, rfl⟩
      have hBX : Below wr.heap.size wr X := by rw [← HX.out]; exact (alloc_below _ _).drew
      have HBX : Hid (Below wr.heap.size wr X) := hBX
      have hXs : X.heap.size = wr.heap.size + 1 := by rw [← HX.out]; show (wr.heap.push _).size = _; simp
      have HTX : Hid (Two X P 32 (.slice a (n - (j + 1)) c) (.int .i64 e)) := HF.out.two.next hBX
      have hPl : P < wr.heap.size := HF.out.two.lt
      obtain ⟨N1, HN1⟩ : ∃ N1, Hid (n - (j + 1) = N1) := ⟨_, rfl⟩
      obtain ⟨N2, HN2⟩ : ∃ N2, Hid (n - j = N2) := ⟨_, rfl⟩
      have HIn : Hid (∀ w', Below X.heap.size X w' → Calls Tryz.prog 27 #[.string s, .int .i64 z, .agg #[.slice a N1 c, .int .i64 e]] w' fun e' w2 => (∃ g cp, w'.heap.size ≤ g ∧ e' = .returned (.agg #[.slice (some ⟨g, 0, none⟩) N2 cp, .int .i64 e]) ∧ PtsC w2 (some ⟨g, 0, none⟩) (FP.drop j)) ∧ Below w'.heap.size w' w2) := fun w' hb => by
        have h := HF.out
        have hr := rin_any (s.data.toList, z) e (FP.drop (j + 1)) a c w' (h.pts.next (next_trans hBX hb)) (by rw [h.len]; omega) h.cap
        rw [h.len, HN1.out, baL_self, List.length_cons, h.len, ← HDr.out] at hr
        have hN : n - (j + 1) + 1 = N2 := by rw [← HN2.out]; omega
        rw [hN] at hr
        exact hr
      have HCh : Hid (Chain X e (FP.drop j) (.iface 59 (.pointer (some ⟨wr.heap.size, 0, none⟩)))) := by
        rw [HDr.out]
        refine ⟨wr.heap.size, .iface ty y, rfl, ?_, ?_, ?_, HF.out.ch.next hBX⟩
        · rw [← HX.out, baL_self]; exact box0 rfl
        · rw [← HX.out]; exact box0 rfl
        · rw [← HX.out]; exact box0 rfl
      have HSh : Hid (∀ p ∈ FP.drop j, p.1.length ≤ 50) := by
        intro p hp
        rw [HDr.out] at hp
        rcases List.mem_cons.1 hp with rfl | hp
        · show s.size ≤ 50; omega
        · exact HF.out.sh p hp
      have HNe : Hid (FP.drop j ≠ []) := by rw [Hid, HDr.out]; exact List.cons_ne_nil _ _
      have HLn : Hid ((FP.drop j).length = n - j) := by rw [Hid, List.length_drop, HFl.out]
      have t0 := HTX.out.c0
      have t1 := HTX.out.c1
      rw [HN1.out] at t0
      have xs := keep_cell hBX ks
      have xz := keep_cell hBX kz
      have s0 : Below X.heap.size X X.drew := (Below.refl _ _).drew
      rw [HX.out]
      clear HF hBX ks kz
      go_wp2_with fail
      go_region_law (go_simp; go_at_call 27; refine (HIn.out _ s0).mono ?_; rintro e'' w2 ⟨⟨g, cp, hge, rfl, hpc⟩, hb2⟩; have hb3 := next_trans s0 hb2; have hT2 := HTX.out.next hb3; have z0 := hT2.f 0; have z1 := hT2.f 1; have zc0 := hT2.c0; have zc1 := hT2.c1)
      all_goals
        have HN : Hid (FlAt w ((w2.setCell ⟨P, 0, none⟩ (.slice (some ⟨g, 0, none⟩) N2 cp)).setCell ⟨P, 1, none⟩ (.int .i64 e)) P e n j FP (.iface 59 (.pointer (some ⟨wr.heap.size, 0, none⟩))) (some ⟨g, 0, none⟩) cp) := by
          have hPw := HPw.out
          have hgP : g ≠ P := by have h9 : X.heap.size ≤ g := hge; omega
          have hT3 := hT2.set0 (.slice (some ⟨g, 0, none⟩) N2 cp)
          refine ⟨((next_trans HBr.out (next_trans HBX.out hb3)).setCell (by exact hPw) _).setCell (by exact hPw) _, ?_, Chain.set hT3 1 _ (Chain.set hT2 0 _ (HCh.out.next hb3)), (hpc.set hgP).set hgP, fun h => absurd h HNe.out, HLn.out, HSh.out⟩
          rw [HN2.out]; exact hT3.set1 _
        clear hb2 hb3 hT2 hpc z0 z1 zc0 zc1 t0 t1 xs xz
        go_wp2
        go_roundw
        case rel => exact ⟨j, _, _, by omega, by go_num, HN⟩
        case measure => simp [intOf]
end Go.Proofs.YthpmnomplhhfgaaGreatDoor
