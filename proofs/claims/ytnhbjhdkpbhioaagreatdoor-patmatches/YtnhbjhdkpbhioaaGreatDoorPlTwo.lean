import Derived.Test.YtnhbjhdkpbhioaaGreatDoorH1
import Derived.Test.YtnhbjhdkpbhioaaGreatDoorPlTo9
import Derived.Deep.AppendLies
namespace Go.Proofs.YtnhbjhdkpbhioaaGreatDoor
open Go.RowKit
def slA : Sl := ⟨baL [97], 2, 0, baL wNil⟩
def slB : Sl := ⟨baL [98], 2, 0, baL wNil⟩
def T2 : List Tp := [⟨baL [112], [slA, slB]⟩, ⟨baL [113], [slA]⟩]
set_option maxHeartbeats 4000000 in
set_option maxRecDepth 8000 in
theorem two_any (w : World) :
    Calls Tryz.prog 10 #[] w fun e w' => (∃ ao cap, e = .returned (.slice ao 2 cap) ∧ IsTps w' ao T2) ∧ Below w.heap.size w w' := by
  go_enter Tryz.func10, Tryz.ntmps10
  go_wp2_with (go_at_call 42; refine (rsym_any _ _).mono ?_; rintro e w1 ⟨rfl, hb⟩)
  obtain ⟨W, HW⟩ : ∃ W, Hid ((((w1.alloc (.cells #[.int .i64 2, .int .i64 0, .string ⟨#[110, 105, 108]⟩] 71)).alloc (.cells #[.string ⟨#[97]⟩, .int .i64 2, .int .i64 0, .string ⟨#[110, 105, 108]⟩, .string ⟨#[98]⟩, .int .i64 2, .int .i64 0, .string ⟨#[110, 105, 108]⟩] 115)).alloc (.cells #[.string ⟨#[97]⟩, .int .i64 2, .int .i64 0, .string ⟨#[110, 105, 108]⟩] 115)).alloc (.cells #[.string ⟨#[112]⟩, .slice (some ⟨w1.heap.size + 1, 0, none⟩) 2 2, .string ⟨#[113]⟩, .slice (some ⟨w1.heap.size + 1 + 1, 0, none⟩) 1 1] 112) = W) := ⟨_, rfl⟩
  have HB : Hid (Below w.heap.size w W) := by rw [← HW.out]; exact next_trans (next_trans (next_trans (next_trans hb (alloc_below _ _)) (alloc_below _ _)) (alloc_below _ _)) (alloc_below _ _)
  have X1 : Hid (Bx W (w1.heap.size + 1) #[.string ⟨#[97]⟩, .int .i64 2, .int .i64 0, .string ⟨#[110, 105, 108]⟩, .string ⟨#[98]⟩, .int .i64 2, .int .i64 0, .string ⟨#[110, 105, 108]⟩]) := by rw [← HW.out]; exact ((Bx.made' rfl (by simp)).alloc _).alloc _
  have X2 : Hid (Bx W (w1.heap.size + 1 + 1) #[.string ⟨#[97]⟩, .int .i64 2, .int .i64 0, .string ⟨#[110, 105, 108]⟩]) := by rw [← HW.out]; exact (Bx.made' rfl (by simp)).alloc _
  have X3 : Hid (Bx W (w1.heap.size + 1 + 1 + 1) #[.string ⟨#[112]⟩, .slice (some ⟨w1.heap.size + 1, 0, none⟩) 2 2, .string ⟨#[113]⟩, .slice (some ⟨w1.heap.size + 1 + 1, 0, none⟩) 1 1]) := Bx.made' HW.out (by simp)
  rw [HW.out]
  go_ret
  refine ⟨⟨_, _, rfl, fun j t hj => ?_⟩, HB.out⟩
  match j, hj with
  | 0, hj =>
    simp [T2] at hj
    subst hj
    refine ⟨_, _, _, _, rfl, X3.out.cell 0, X3.out.cell 1, fun i s hi => ?_⟩
    match i, hi with
    | 0, hi => simp at hi; subst hi; exact ⟨_, _, rfl, X1.out.cell 0, X1.out.cell 1, X1.out.cell 2, X1.out.cell 3⟩
    | 1, hi => simp at hi; subst hi; exact ⟨_, _, rfl, X1.out.cell 4, X1.out.cell 5, X1.out.cell 6, X1.out.cell 7⟩
    | i + 2, hi => simp at hi
  | 1, hj =>
    simp [T2] at hj
    subst hj
    refine ⟨_, _, _, _, rfl, X3.out.cell 2, X3.out.cell 3, fun i s hi => ?_⟩
    match i, hi with
    | 0, hi => simp at hi; subst hi; exact ⟨_, _, rfl, X2.out.cell 0, X2.out.cell 1, X2.out.cell 2, X2.out.cell 3⟩
    | i + 1, hi => simp at hi
  | j + 2, hj => simp [T2] at hj
theorem infoTp : (Tryz.prog.info? 108).map (fun i => (i.zero, i.size, i.bytes)) = some (some (.agg #[.string ⟨#[]⟩, .slice none 0 0]), 2, 40) := by kernel_rfl
theorem infoTp' : ∃ i, Tryz.prog.info? 108 = some i ∧ i.zero = some (.agg #[.string ⟨#[]⟩, .slice none 0 0]) ∧ i.size = 2 ∧ i.bytes = 40 := by
  obtain ⟨i, h, e⟩ := Option.map_eq_some_iff.1 infoTp
  simp only [Prod.mk.injEq] at e
  exact ⟨i, h, e.1, e.2.1, e.2.2⟩
def TpsE (w' : World) (L : List Tp) (N : Nat) (e : Ending) : Prop := ∃ ao cap, e = .returned (.slice ao N cap) ∧ IsTps w' ao L
structure Tq where
  t : Tp
  ao : Option Addr
  c : Nat
def tqsC (L : List Tq) : List Value := L.flatMap fun q => [.string q.t.n, .slice q.ao q.t.l.length q.c]
theorem tqsC_cons (a : Tq) (r : List Tq) : tqsC (a :: r) = [Value.string a.t.n, .slice a.ao a.t.l.length a.c] ++ tqsC r := by unfold tqsC; rw [List.flatMap_cons]
theorem tqsC_snoc (L : List Tq) (q : Tq) : tqsC L ++ [.string q.t.n, .slice q.ao q.t.l.length q.c] = tqsC (L ++ [q]) := by unfold tqsC; rw [List.flatMap_append]; simp
theorem tqs_at : ∀ (L : List Tq) (j r : Nat) (q : Tq), L[j]? = some q → r < 2 → (tqsC L)[j * 2 + r]? = [Value.string q.t.n, .slice q.ao q.t.l.length q.c][r]?
  | [], j, r, q, h, _ => by simp at h
  | x :: l, 0, r, q, h, hr => by
    simp at h; subst h
    rw [Nat.zero_mul, Nat.zero_add]
    rw [tqsC_cons, List.getElem?_append_left (by show r < 2; exact hr)]
  | x :: l, j + 1, r, q, h, hr => by
    rw [List.getElem?_cons_succ] at h
    rw [tqsC_cons, List.getElem?_append_right (by show 2 ≤ _; omega)]
    show (tqsC l)[(j + 1) * 2 + r - 2]? = _
    rw [show (j + 1) * 2 + r - 2 = j * 2 + r by omega]
    exact tqs_at l j r q h hr
structure TqW (w wr : World) (v : Value) (n : Nat) (L : List Tq) : Prop where
  bel : Below w.heap.size w wr
  own : wr.ownsRow w.heap.size 108 2 v n (tqsC L)
  len : L.length = n
  rows : ∀ q ∈ L, IsSls wr q.ao q.t.l ∧ ∀ b o, q.ao = some ⟨b, o, none⟩ → v.ownBlock ≠ some b ∧ b < wr.heap.size
theorem TqW.next {w wr w' : World} {v : Value} {n : Nat} {L : List Tq} (h : TqW w wr v n L) (hb : Below wr.heap.size wr w') : TqW w w' v n L := ⟨next_trans h.bel hb, own_next h.own hb, h.len, fun q hq => ⟨(h.rows q hq).1.next hb, fun b o e => ⟨((h.rows q hq).2 b o e).1, Nat.lt_of_lt_of_le ((h.rows q hq).2 b o e).2 hb.size⟩⟩⟩
theorem TqW.tps {w wr : World} {v : Value} {n : Nat} {L : List Tq} (h : TqW w wr v n L) : ∃ ao cap, v = .slice ao n cap ∧ IsTps wr ao (L.map Tq.t) := by
  rcases h.own.2 with ⟨rfl, h0⟩ | ⟨g, cap, cur, rfl, _, _, hn, _⟩
  · refine ⟨none, 0, by rw [h0], fun j t hj => ?_⟩
    have e : L = [] := List.eq_nil_of_length_eq_zero (by rw [h.len]; exact h0)
    subst e; simp at hj
  · refine ⟨_, cap, rfl, fun j t hj => ?_⟩
    rw [List.getElem?_map, Option.map_eq_some_iff] at hj
    obtain ⟨q, hq, rfl⟩ := hj
    have hjl : j < L.length := (List.getElem?_eq_some_iff.1 hq).1
    have hjn : j < n := by rw [← h.len]; exact hjl
    have hc : ∀ r, r < 2 → wr.cell? ⟨g, j * 2 + r, none⟩ = [Value.string q.t.n, .slice q.ao q.t.l.length q.c][r]? := fun r hr => by
      rw [h.own.cellAt (j * 2 + r) (by omega), tqs_at L j r q hq hr]
    exact ⟨g, 0, q.ao, q.c, rfl, by rw [Nat.zero_add]; exact hc 0 (by omega), by rw [Nat.zero_add]; exact hc 1 (by omega), (h.rows q (List.mem_of_getElem? hq)).1⟩
theorem sls_grown {w w' : World} {v : Value} {ao : Option Addr} {L : List Sl} (h : IsSls w ao L) (hg : w.grownBy w' v.ownBlock) (hne : ∀ b o, ao = some ⟨b, o, none⟩ → v.ownBlock ≠ some b) : IsSls w' ao L := by
  intro j s hj
  obtain ⟨b, o, h0, h1, h2, h3, h4⟩ := h j s hj
  have hb := hg.block b (World.block_lt_of_cell? w _ h1) (fun e => hne b o h0 e.symm)
  exact ⟨b, o, h0, by rw [World.cell?_of_block (a := ⟨b, _, none⟩) hb]; exact h1, by rw [World.cell?_of_block (a := ⟨b, _, none⟩) hb]; exact h2, by rw [World.cell?_of_block (a := ⟨b, _, none⟩) hb]; exact h3, by rw [World.cell?_of_block (a := ⟨b, _, none⟩) hb]; exact h4⟩
set_option maxHeartbeats 8000000 in
set_option maxRecDepth 8000 in
theorem alltp_any (L : List Tp) (N : Nat) (ao : Option Addr) (cap : Nat) (w : World) (hL : L.length = N) (hN : N ≤ 1000) (hT : ∀ t ∈ L, t.l.length ≤ 1000) (h : IsTps w ao L) :
    Calls Tryz.prog 9 #[.slice ao N cap] w fun e w' => TpsE w' L N e ∧ Below w.heap.size w w' := by
  have HL : Hid (L.length = N) := hL
  have HI : Hid (IsTps w ao L) := h
  have HT : Hid (∀ t ∈ L, t.l.length ≤ 1000) := hT
  have H0 : Hid (TqW w w (.slice none 0 0) 0 []) := ⟨Below.refl _ _, World.ownsRow_nil _ _ _ _, rfl, fun q hq => absurd hq (by simp)⟩
  clear hL h hT
  go_enter Tryz.func9, Tryz.ntmps9
  go_wp2
  go_loopw [3, 4] (fun l q wr => ∃ (k : Nat) (G : List Tq) (ro : Option Addr) (rc : Nat), k ≤ N ∧ q = .int .i64 k ∧ l = .slice ro k rc ∧ Hid (TqW w wr (.slice ro k rc) k G) ∧ Hid (G.map Tq.t = L.take k)) (fun _ q _ => N - (intOf q).toNat)
  case atStart => exact ⟨0, [], none, 0, Nat.zero_le _, rfl, rfl, H0, rfl⟩
  case round =>
    obtain ⟨k, G, ro, rc, hk, rfl, rfl, HW, HG⟩ := hrel
    clear H0
    by_cases hlt : k < N
    · have hki : (k : Int) < (N : Int) := by omega
      have hk0 : (0 : Int) ≤ (k : Int) := by omega
      obtain ⟨t, ht⟩ : ∃ t, L[k]? = some t := ⟨_, List.getElem?_eq_getElem (by rw [HL.out]; exact hlt)⟩
      obtain ⟨b, o, to, tc, rfl, c0, c1, hs⟩ := (HI.out.next HW.out.bel) k t ht
      have HLk : Hid (L.take (k + 1) = L.take k ++ [t]) := by rw [Hid, List.take_add_one, ht]; rfl
      have htl := HT.out t (List.mem_of_getElem? ht)
      obtain ⟨tn, tl⟩ := t
      simp only at c0 c1 hs htl
      obtain ⟨M, HM⟩ : ∃ M, Hid (tl.length = M) := ⟨_, rfl⟩
      rw [HM.out] at c1
      have HTo : Hid (Calls Tryz.prog 41 #[.agg #[.string tn, .slice to M tc]] wr fun e w' => (∃ ao' cap', e = .returned (.agg #[.string tn, .slice ao' M cap']) ∧ M ≤ cap' ∧ IsSls w' ao' tl ∧ ∀ b o, ao' = some ⟨b, o, none⟩ → wr.heap.size ≤ b ∧ b < w'.heap.size) ∧ Below wr.heap.size wr w') := by
        have := tto9_any ⟨tn, tl⟩ to tc wr htl hs
        unfold tmV at this
        simp only at this
        rw [HM.out] at this
        exact this
      clear ht hs
      go_wp2_with fail
      refine HTo.out.mono ?_
      rintro e w2 ⟨⟨a2, k2, rfl, _, hs2, ha2⟩, hb2⟩
      have HW2 : Hid (TqW w w2 (.slice ro k rc) k G) := HW.out.next hb2
      have HS2 : Hid (IsSls w2 a2 tl ∧ ∀ b o, a2 = some ⟨b, o, none⟩ → wr.heap.size ≤ b ∧ b < w2.heap.size) := ⟨hs2, ha2⟩
      obtain ⟨i0, hi, hz0, hz1, hz2⟩ := infoTp'
      have HO : Hid (w2.ownsRow w.heap.size 108 2 (.slice ro k rc) k (tqsC G)) := HW2.out.own
      have HOb : Hid (∀ j, (Value.slice ro k rc).ownBlock = some j → w.heap.size ≤ j ∧ j < wr.heap.size) := fun j hj => HW.out.own.lt j hj
      have hs0 : w.heap.size ≤ w2.heap.size := HW2.out.bel.size
      have hb2s := hb2.size
      clear hs2 ha2 hb2 c0 c1 HTo
      go_wp2_with (at_builtin; refine wpList_append_lies _ rfl _ _ 30 rfl w.heap.size 108 i0 (.agg #[.string ⟨#[]⟩, .slice none 0 0]) 2 40 Tryz.underlying30 hi hz0 hz1 hz2 rfl (by decide) _ _ _ rfl (HO.out.alloc _) ⟨w2.heap.size, 0, none⟩ 1 1 [.string tn, .slice a2 M k2] rfl rfl ?e1 ?e2 (by decide) ?e3 ?e4 ?e5 _ rfl ?_)
      case e1 =>
        intro j u hj
        match j, hj with
        | 0, hj => simp at hj; subst hj; simp [Addr.add]
        | 1, hj => simp at hj; subst hj; simp [Addr.add]
      case e2 => intro u hu; simp at hu; rcases hu with rfl | rfl <;> rfl
      case e3 => unfold maxLen; omega
      case e4 => omega
      case e5 => simp; omega
      intro gk gcap w7 ho hg hv7 hlt7
      have hgs : w2.heap.size ≤ w7.heap.size := by have := hg.size; simp at this; omega
      have HW7 : Hid (TqW w w7 (.slice (some ⟨gk, 0, none⟩) (k + 1) gcap) (k + 1) (G ++ [⟨⟨tn, tl⟩, a2, k2⟩])) := by
        have hnew : ∀ b, (Value.slice ro k rc).ownBlock ≠ some b → b < w2.heap.size → (Value.slice (some ⟨gk, 0, none⟩) (k + 1) gcap).ownBlock ≠ some b := fun b h1 h2 e => by
          have e1 : gk = b := Option.some.inj e
          rcases hv7 with hv7 | hv7
          · exact h1 (by rw [hv7, e1])
          · rw [e1] at hv7; first | omega | (rw [World.size_alloc] at hv7; omega)
        refine ⟨?_, ?_, ?_, ?_⟩
        · exact HW2.out.bel.trans (((Below.refl _ w2).alloc hs0 _).grown hg (by simp; omega) (fun k hk => (HOb.out k hk).1))
        · rw [← tqsC_snoc]; show w7.ownsRow _ _ _ _ _ (_ ++ [Value.string tn, .slice a2 tl.length k2]); rw [HM.out]; exact ho
        · rw [List.length_append, HW2.out.len]; rfl
        · intro q hq
          rcases List.mem_append.1 hq with hq | hq
          · obtain ⟨h1, h2⟩ := HW2.out.rows q hq
            exact ⟨sls_grown (h1.next (alloc_below _ _)) hg (fun b o e => (h2 b o e).1), fun b o e => ⟨hnew b (h2 b o e).1 (h2 b o e).2, Nat.lt_of_lt_of_le (h2 b o e).2 hgs⟩⟩
          · simp at hq
            subst hq
            have h9 : ∀ b o, a2 = some ⟨b, o, none⟩ → (Value.slice ro k rc).ownBlock ≠ some b := fun b o e hne => by
              have h3 := (HS2.out.2 b o e).1
              have h4 := (HOb.out b hne).2
              omega
            exact ⟨sls_grown (HS2.out.1.next (alloc_below _ _)) hg h9, fun b o e => ⟨hnew b (h9 b o e) (HS2.out.2 b o e).2, Nat.lt_of_lt_of_le (HS2.out.2 b o e).2 hgs⟩⟩
      clear ho hg hv7 hlt7 hgs HW2 HS2 HO HOb hi hz0 hz1 hz2 HW
      have HG2 : Hid ((G ++ [(⟨⟨tn, tl⟩, a2, k2⟩ : Tq)]).map Tq.t = L.take (k + 1)) := by rw [Hid, HLk.out, List.map_append, HG.out]; rfl
      go_wp2
      go_roundw
      case rel => exact ⟨k + 1, _, _, gcap, by omega, by go_num, rfl, HW7, HG2⟩
      case measure => simp [intOf]; omega
    · have hki : ¬ (k : Int) < (N : Int) := by omega
      obtain rfl : k = N := by omega
      obtain ⟨ro2, rc2, hs2, htp⟩ := HW.out.tps
      cases hs2
      rw [HG.out, List.take_of_length_le (by rw [HL.out]; exact Nat.le_refl _)] at htp
      have HTP : Hid (IsTps wr ro L) := htp
      have HBe : Hid (Below w.heap.size w wr) := HW.out.bel
      clear htp HW HG
      go_wp2
      go_ret
      exact ⟨⟨ro, rc, rfl, HTP.out⟩, HBe.out⟩
end Go.Proofs.YtnhbjhdkpbhioaaGreatDoor
