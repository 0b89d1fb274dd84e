/- strings.Builder: a text behind what it holds; how much it holds. -/
import Derived.Lib.AppendStr
import Derived.Laws.Concat
import Derived.Deep.RegionHeld3
import Derived.Test.YtlniifheapoppaaDoorG3
import Derived.Test.YtlniifheapoppaaDoorG28
import Derived.Test.YtlniifheapoppaaDoorG13
namespace Go.Proofs.YtlniifheapoppaaDoor
open Go.RowKit

theorem bown_next {B e size n : Nat} {w w' : World} {v : Value} {xs : List Value} (h : w.ownsRow B e size v n xs) (hb : Below w.heap.size w w') : w'.ownsRow B e size v n xs := by
  refine ⟨h.1, h.2.elim Or.inl (fun ⟨g, cap, cur, hv, hg, hh, r⟩ => Or.inr ⟨g, cap, cur, hv, hg, ?_, r⟩)⟩
  have hlt : g < w.heap.size := by
    rcases Nat.lt_or_ge g w.heap.size with h1 | h1
    · exact h1
    · rw [Array.getElem?_eq_none h1] at hh; exact absurd hh (by simp)
  rw [hb.block g hlt]
  exact hh
theorem Bld.keep {B b : Nat} {l : List UInt8} {w w' : World} (h : Bld B b l w) (hb : Below w.heap.size w w') : Bld B b l w' := by
  have key : ∀ p, Lib.BuilderAt 72 5 B b p (Lib.byteCells l) w → Lib.BuilderAt 72 5 B b p (Lib.byteCells l) w' := by
    rintro p ⟨h1, v, h2, h3, h4⟩
    refine ⟨h1, v, ?_, bown_next h3 hb, h4⟩
    have hlt : b < w.heap.size := by
      rcases Nat.lt_or_ge b w.heap.size with h' | h'
      · exact h'
      · simp [Array.getElem?_eq_none h'] at h2
    rw [hb.block b hlt]
    exact h2
  exact h.imp (key _) (key _)
theorem bcells_app (l m : List UInt8) : Lib.byteCells (l ++ m) = Lib.byteCells l ++ Lib.byteCells m := by unfold Lib.byteCells; rw [List.map_append]
theorem bstr_cells (m : List UInt8) : Lib.strCells ⟨m.toArray⟩ = Lib.byteCells m := by unfold Lib.strCells Lib.byteCells; rfl
set_option maxHeartbeats 1000000 in
set_option maxRecDepth 100000 in
theorem bwrite_str (B b : Nat) (l m : List UInt8) (s : ByteArray) (HSs : Hid (s = ⟨m.toArray⟩)) (w : World) (h : Bld B b l w) (hl : l.length + m.length ≤ 1000000) (hB : B ≤ w.heap.size) :
    Calls Tryd.prog 25 #[.pointer (some ⟨b, 0, none⟩), .string s] w fun e w' => (∃ n : Int, e = .returned (.tuple #[.int .i64 n, .nilIface])) ∧ Bld B b (l ++ m) w' ∧ Below B w w' := by
  obtain ⟨i0, hi, hz0, hz1, hz2⟩ := inU'
  have hcl : Hid ((Lib.byteCells l).length = l.length) := cells_len l
  have HSz : Hid (s.size = m.length) := by rw [Hid, HSs.out]; rfl
  have hss : s.size ≤ 1000000 := by rw [HSz.out]; omega
  go_enter Tryd.func25, Tryd.ntmps25
  go_wp2_with (go_at_call 43; refine (check_any B b l _ h).mono ?_)
  rintro e w1 ⟨rfl, ⟨hBb, v, hbk, hown, hne⟩, hb1⟩
  have hz := hb1.size
  have c0 : w1.cell? ⟨b, 0, none⟩ = some (.pointer (some ⟨b, 0, none⟩)) := by rw [Lib.cell_of_heap hbk]; rfl
  have c1 : w1.cell? ⟨b, 1, none⟩ = some v := by rw [Lib.cell_of_heap hbk]; rfl
  go_wp2_with (at_builtin; refine Lib.wpList_append_own_string _ rfl _ _ 30 9 rfl B 5 i0 Tryd.underlying30 Tryd.underlying9 hi hz0 hz1 hz2 _ _ _ rfl hown s rfl ?c3 ?c4 ?c5 ?_)
  case c3 => unfold maxLen; rw [hcl.out]; have := HSz.out; omega
  case c4 => rw [hcl.out]; have := HSz.out; omega
  case c5 => omega
  intro v' w2 hown' hgrow hnil
  have hlt : b < w1.heap.size := by
    rcases Nat.lt_or_ge b w1.heap.size with h' | h'
    · exact h'
    · simp [Array.getElem?_eq_none h'] at hbk
  have hb2 : w2.heap[b]? = some (.cells #[.pointer (some ⟨b, 0, none⟩), v] 72 (0, 0)) := by
    rw [hgrow.block b hlt (fun e => hne e.symm)]
    exact hbk
  have d0 : w2.cell? ⟨b, 0, none⟩ = some (.pointer (some ⟨b, 0, none⟩)) := by rw [Lib.cell_of_heap hb2]; rfl
  have d1 : w2.cell? ⟨b, 1, none⟩ = some v := by rw [Lib.cell_of_heap hb2]; rfl
  have f1 : w2.frozen? ⟨b, 1, none⟩ = false := Lib.frozen_of_heap hb2 1
  obtain ⟨vao, vn, vcap, rfl⟩ : ∃ vao vn vcap, v' = .slice vao vn vcap := by
    rcases hown'.2 with ⟨e, _⟩ | ⟨g, cap, cur, hv, _⟩
    · exact ⟨_, _, _, e⟩
    · exact ⟨_, _, _, hv⟩
  have HX : Hid (w2.ownsRow B 5 1 (.slice vao vn vcap) ((Lib.byteCells l ++ Lib.byteCells m).length) (Lib.byteCells l ++ Lib.byteCells m)) := by
    have e : Lib.strCells s = Lib.byteCells m := by rw [HSs.out, bstr_cells]
    rw [e] at hown'
    have e2 : (Lib.byteCells l ++ Lib.byteCells m).length = (Lib.byteCells l).length + s.size := by rw [List.length_append, cells_len m, HSz.out]
    rw [Hid, e2]
    exact hown'
  clear hcl
  go_wp2
  go_ret2
  refine ⟨⟨_, rfl⟩, Or.inr ?_, ?_⟩
  · rw [bcells_app]
    exact Lib.BuilderAt.put (T := 72) (e := 5) hBb hb2 (bs' := Lib.byteCells l ++ Lib.byteCells m) HX.out (by decide)
  · exact ((hb1.trans (Below.refl _ _)).grown hgrow (by omega) (fun k hk => (hown.lt k hk).1)).setCell (p := ⟨b, 1, none⟩) hBb _
end Go.Proofs.YtlniifheapoppaaDoor
/- A fact's text, part by part. -/
namespace Go.Proofs.YtlniifheapoppaaDoor
open Go.RowKit

theorem ba_cat (a b : ByteArray) : a ++ b = baL (a.data.toList ++ b.data.toList) := by
  rw [← baL_app, ba_self, ba_self]
theorem part_cat (n X : ByteArray) : (((⟨#[32, 40]⟩ ++ n) ++ ⟨#[32]⟩) ++ X) ++ (⟨#[41]⟩ : ByteArray) = baL (32 :: 40 :: (n.data.toList ++ 32 :: (X.data.toList ++ [41]))) := by
  rw [ba_cat _ (⟨#[41]⟩ : ByteArray), ba_cat _ X, ba_cat _ (⟨#[32]⟩ : ByteArray), ba_cat _ n, baL_list, baL_list, baL_list]
  congr 1
  simp
theorem open_cat (n : ByteArray) : ⟨#[40]⟩ ++ n = baL (40 :: n.data.toList) := by
  rw [ba_cat]; rfl
theorem textP_snoc {l : List Sl} {vs : List Val} {k : Nat} {s : Sl} {v : Val} (h1 : l[k]? = some s) (h2 : vs[k]? = some v) : textP ((l.zip vs).take (k + 1)) = textP ((l.zip vs).take k) ++ partS s v := by
  obtain ⟨g1, e1⟩ := List.getElem?_eq_some_iff.1 h1
  obtain ⟨g2, e2⟩ := List.getElem?_eq_some_iff.1 h2
  have hz : k < (l.zip vs).length := by rw [List.length_zip]; omega
  rw [List.take_succ_eq_append_getElem hz, List.getElem_zip, e1, e2]
  unfold textP
  rw [List.map_append, List.flatten_append]; simp
theorem textP_le (l : List (Sl × Val)) (k : Nat) : (textP (l.take k)).length ≤ (textP l).length := by
  have : textP l = textP (l.take k) ++ textP (l.drop k) := by
    unfold textP
    rw [← List.flatten_append, ← List.map_append, List.take_append_drop]
  rw [this, List.length_append]; omega
end Go.Proofs.YtlniifheapoppaaDoor
/- Package tmpl's Text. -/
namespace Go.Proofs.YtlniifheapoppaaDoor
open Go.RowKit

theorem keep_under {B : Nat} {w w' : World} {p : Addr} {v : Value} (hb : Below B w w') (h : w.cell? p = some v) (hl : p.block < B) : w'.cell? p = some v := by
  rw [hb.cell hl]; exact h
structure TxW (w wr : World) (tn : ByteArray) (ao : Option Addr) (N cap : Nat) (P : Nat) (txt : List UInt8) : Prop where
  bel : Below w.heap.size w wr
  x : Bx wr w.heap.size #[.string tn, .slice ao N cap]
  b : Bld P P txt wr
theorem TxW.next {w wr w' : World} {tn : ByteArray} {ao : Option Addr} {N cap P : Nat} {txt : List UInt8} (h : TxW w wr tn ao N cap P txt) (hb : Below wr.heap.size wr w') : TxW w w' tn ao N cap P txt := ⟨next_trans h.bel hb, h.x.next hb, h.b.keep hb⟩

set_option maxHeartbeats 16000000 in
set_option maxRecDepth 8000 in
theorem tmtext_any (t : Tp) (ao : Option Addr) (cap : Nat) (vo : Option Addr) (N vc : Nat) (vs : List Val) (w : World) (hN : t.l.length = N) (hN2 : vs.length = N) (hm : N ≤ 1000) (hl : (textT t vs).length ≤ 300000) (hs : ∀ v ∈ vs, v.s.size ≤ 300000 ∧ inB v.i = true) (h : IsSls w ao t.l) (hv : IsVals w vo vs) (ht : TabW w) :
    Calls Tryd.prog 13 #[tmV t ao cap, .slice vo N vc] w fun e w' => e = .returned (.string (baL (textT t vs))) ∧ Below w.heap.size w w' := by
  obtain ⟨tn, l⟩ := t
  unfold tmV
  simp only at hN h ⊢
  rw [hN]
  have HN : Hid (l.length = N) := hN
  have HN2 : Hid (vs.length = N) := hN2
  have HI : Hid (IsSls w ao l) := h
  have HVs : Hid (IsVals w vo vs) := hv
  have HT : Hid (TabW w) := ht
  have HSz : Hid (∀ v ∈ vs, v.s.size ≤ 300000 ∧ inB v.i = true) := hs
  have HLn : Hid (tn.size + (textP (l.zip vs)).length + 2 ≤ 300000) := by
    unfold textT at hl
    simp only [List.length_cons, List.length_append, List.length_nil] at hl
    have : tn.data.toList.length = tn.size := rfl
    rw [Hid]; omega
  have htn : tn.size ≤ 300000 := by have := HLn.out; omega
  obtain ⟨Z, HZ⟩ : ∃ Z, Hid (baL (textT ⟨tn, l⟩ vs) = Z) := ⟨_, rfl⟩
  rw [HZ.out]
  have hmin : min (N : Int) (N : Int) = (N : Int) := by omega
  obtain ⟨P, HP⟩ : ∃ P, Hid (w.heap.size + 1 = P) := ⟨_, rfl⟩
  obtain ⟨W, HWe⟩ : ∃ W, Hid ((w.alloc (.cells #[.string tn, .slice ao N cap] 26)).alloc (.cells #[.pointer none, .slice none 0 0] 72) = W) := ⟨_, rfl⟩
  have HW : Hid (TxW w W tn ao N cap P []) := by
    refine ⟨?_, ?_, ?_⟩
    · rw [← HWe.out]; exact next_trans (alloc_below _ _) (alloc_below _ _)
    · rw [← HWe.out]; exact (Bx.made _ _ _).alloc _
    · rw [← HWe.out, ← HP.out]
      have := Lib.fresh_isBuilder 72 5 (w.alloc (.cells #[.string tn, .slice ao N cap] 26))
      rw [World.size_alloc] at this
      exact this
  clear hN hN2 h hv ht hs hl
  go_enter Tryd.func13, Tryd.ntmps13
  go_wp2_with fail
  rw [HWe.out, HP.out]
  have hpw : P < W.heap.size := HW.out.b.lt
  refine (bwrite_str P P [] (40 :: tn.data.toList) _ (by rw [Hid]; exact open_cat tn) W HW.out.b (by have : tn.data.toList.length = tn.size := rfl; simp only [List.length_nil, List.length_cons]; omega) (by omega)).mono ?_
  rintro e w1 ⟨⟨n1, rfl⟩, hl1, hb1⟩
  rw [List.nil_append] at hl1
  have hP : w.heap.size + 1 = P := HP.out
  have HW1 : Hid (TxW w w1 tn ao N cap P (40 :: tn.data.toList ++ textP ((l.zip vs).take 0))) := by
    rw [List.take_zero]
    show TxW w w1 tn ao N cap P (40 :: tn.data.toList ++ [])
    rw [List.append_nil]
    exact ⟨HW.out.bel.trans (hb1.mono (by omega)), HW.out.x.keep (hb1.block _ (by omega)), hl1⟩
  have x1 : w1.cell? ⟨w.heap.size, 1, none⟩ = some (.slice ao N cap) := HW1.out.x.cell 1
  clear hl1 hb1 HW HWe hP
  go_wp2
  clear x1
  go_loopw [17] (fun q wr => ∃ k : Nat, k ≤ N ∧ q = .int .i64 k ∧ Hid (TxW w wr tn ao N cap P (40 :: tn.data.toList ++ textP ((l.zip vs).take k)))) (fun q _ => N - (intOf q).toNat)
  case atStart => exact ⟨0, Nat.zero_le _, rfl, HW1⟩
  case round =>
    obtain ⟨k, hk, rfl, HTx⟩ := hrel
    clear HW1
    have x1 : wr.cell? ⟨w.heap.size, 1, none⟩ = some (.slice ao N cap) := HTx.out.x.cell 1
    have hpr : P < wr.heap.size := HTx.out.b.lt
    have HLk : Hid ((40 :: tn.data.toList ++ textP ((l.zip vs).take k)).length ≤ 300000) := by
      have h1 := textP_le (l.zip vs) k
      have h2 := HLn.out
      have : tn.data.toList.length = tn.size := rfl
      rw [Hid, List.length_append, List.length_cons]; omega
    by_cases hlt : k < N
    · have hki : (k : Int) < (N : Int) := by omega
      have hk0 : (0 : Int) ≤ (k : Int) := by omega
      obtain ⟨s, hs⟩ : ∃ s, l[k]? = some s := ⟨_, List.getElem?_eq_getElem (by rw [HN.out]; exact hlt)⟩
      obtain ⟨v, hv⟩ : ∃ v, vs[k]? = some v := ⟨_, List.getElem?_eq_getElem (by rw [HN2.out]; exact hlt)⟩
      have HPt : Hid (textP ((l.zip vs).take (k + 1)) = textP ((l.zip vs).take k) ++ partS s v) := textP_snoc hs hv
      have hlp : (partS s v).length ≤ 300000 := by
        have h1 := textP_le (l.zip vs) (k + 1)
        rw [HPt.out, List.length_append] at h1
        have := HLn.out; omega
      have HLk2 : Hid ((40 :: tn.data.toList ++ textP ((l.zip vs).take k)).length + (partS s v).length ≤ 300000) := by
        have h1 := textP_le (l.zip vs) (k + 1)
        rw [HPt.out, List.length_append] at h1
        have := HLn.out
        have : tn.data.toList.length = tn.size := rfl
        rw [Hid, List.length_append, List.length_cons]; omega
      obtain ⟨b, o, rfl, c0, c1, c2, c3⟩ := (HI.out.next HTx.out.bel) k s hs
      obtain ⟨b2, o2, rfl, d0, d1, d2⟩ := (HVs.out.next HTx.out.bel) k v hv
      have hob : b < w.heap.size := by
        obtain ⟨b', o', e', c0', _⟩ := HI.out k s hs
        have e1 := Option.some.inj e'
        injection e1 with e2 e3
        subst e2
        exact World.block_lt_of_cell? w ⟨b, _, none⟩ c0'
      have hob2 : b2 < w.heap.size := by
        obtain ⟨b', o', e', c0', _⟩ := HVs.out k v hv
        have e1 := Option.some.inj e'
        injection e1 with e2 e3
        subst e2
        exact World.block_lt_of_cell? w ⟨b2, _, none⟩ c0'
      have hvs := HSz.out v (List.mem_of_getElem? hv)
      obtain ⟨sn, sk, si, ss⟩ := s
      obtain ⟨vk, vi, vt⟩ := v
      simp only at c0 c1 c2 c3 d0 d1 d2 hvs
      obtain ⟨X, HX⟩ : ∃ X, Hid (textS vk vi vt = X) := ⟨_, rfl⟩
      have hlp2 : sn.size + X.size + 5 ≤ 300001 := by
        unfold partS at hlp
        simp only [List.length_cons, List.length_append, List.length_nil] at hlp
        rw [HX.out] at hlp
        have e1 : sn.data.toList.length = sn.size := rfl
        have e2 : X.data.toList.length = X.size := rfl
        omega
      have HTxt : Hid (∀ w', Below w.heap.size w w' → Calls Tryd.prog 26 #[.agg #[.int .i64 (vk), .int .i64 (vi), .string (vt)]] w' fun e w2 => e = .returned (.string X) ∧ Below w'.heap.size w' w2) := by
        intro w' hw; rw [← HX.out]; exact text_val vk vi vt w' hvs.1 hvs.2 (tab_next HT.out hw)
      have HPs : Hid (baL (partS ⟨sn, sk, si, ss⟩ ⟨vk, vi, vt⟩) = (((⟨#[32, 40]⟩ ++ sn) ++ ⟨#[32]⟩) ++ X) ++ (⟨#[41]⟩ : ByteArray)) := by
        rw [Hid, part_cat, ← HX.out]; rfl
      have hc1 : ∀ w, (Op.stringOp .add ⟨#[32, 40]⟩ sn).run Tryd.prog w = .ok (.string (⟨#[32, 40]⟩ ++ sn)) w := fun w => run_string_add_sum w _ sn (by show 2 + sn.size ≤ _; omega)
      have hc2 : ∀ w, (Op.stringOp .add (⟨#[32, 40]⟩ ++ sn) ⟨#[32]⟩).run Tryd.prog w = .ok (.string ((⟨#[32, 40]⟩ ++ sn) ++ ⟨#[32]⟩)) w := fun w => run_string_add_sum w _ _ (by rw [ByteArray.size_append]; show 2 + sn.size + 1 ≤ _; omega)
      have hc3 : ∀ w, (Op.stringOp .add ((⟨#[32, 40]⟩ ++ sn) ++ ⟨#[32]⟩) X).run Tryd.prog w = .ok (.string (((⟨#[32, 40]⟩ ++ sn) ++ ⟨#[32]⟩) ++ X)) w := fun w => run_string_add_sum w _ _ (by rw [ByteArray.size_append, ByteArray.size_append]; show 2 + sn.size + 1 + X.size ≤ _; omega)
      have hc4 : ∀ w, (Op.stringOp .add (((⟨#[32, 40]⟩ ++ sn) ++ ⟨#[32]⟩) ++ X) ⟨#[41]⟩).run Tryd.prog w = .ok (.string ((((⟨#[32, 40]⟩ ++ sn) ++ ⟨#[32]⟩) ++ X) ++ ⟨#[41]⟩)) w := fun w => run_string_add_sum w _ _ (by rw [ByteArray.size_append, ByteArray.size_append, ByteArray.size_append]; show 2 + sn.size + 1 + X.size + 1 ≤ _; omega)
      have hwP : w.heap.size < P := by have := HP.out; omega
      clear hs hv hlp hvs
      go_wp2
      go_region_held3 (fun w' => w'.cell? ⟨w.heap.size, 1, none⟩ = some (.slice (some ⟨b, o, none⟩) N cap) ∧ w'.cell? ⟨b, o + k * 4, none⟩ = some (.string sn) ∧ w'.cell? ⟨b2, o2 + k * 3, none⟩ = some (.int .i64 vk) ∧ w'.cell? ⟨b2, o2 + k * 3 + 1, none⟩ = some (.int .i64 vi) ∧ w'.cell? ⟨b2, o2 + k * 3 + 2, none⟩ = some (.string vt))
        (((try dsimp only); go_split_ands; refine ⟨?_, ?_, ?_, ?_, ?_⟩ <;> first | assumption | exact keep_cell (by assumption) (by assumption) | exact keep_under (by assumption) (by assumption) (by simp only; omega)))
        (first
          | (go_at_call 26; refine (HTxt.out _ (HTx.out.bel.drew)).mono ?_; rintro e w5 ⟨rfl, hb⟩; have hb5 := hb; have HT5 : Hid (TxW w w5 tn (some ⟨b, o, none⟩) N cap P (40 :: tn.data.toList ++ textP ((l.zip vs).take k))) := HTx.out.next (below_undrawn hb5))
          | (go_at_call 25; refine (bwrite_str P P _ (partS ⟨sn, sk, si, ss⟩ ⟨vk, vi, vt⟩) _ (by rw [Hid]; exact HPs.out.symm) _ HT5.out.b (by have := HLk2.out; omega) (Nat.le_of_lt HT5.out.b.lt)).mono ?_; rintro e w6 ⟨⟨n6, rfl⟩, hl6, hb⟩; have hb6 := hb))
      all_goals
        go_split_ands
        have hP : w.heap.size + 1 = P := HP.out
        have HT6 : Hid (TxW w w6 tn (some ⟨b, o, none⟩) N cap P (40 :: tn.data.toList ++ textP ((l.zip vs).take (k + 1)))) := by
          rw [HPt.out, ← List.append_assoc]
          exact ⟨HT5.out.bel.trans (hb6.mono (by omega)), HT5.out.x.keep (hb6.block _ (by omega)), hl6⟩
        clear hl6 hb6 hb5 hb HT5 HTx HPt HPs HTxt
        go_wp2
        go_roundw
        case rel => exact ⟨k + 1, by omega, by go_num, HT6⟩
        case measure => simp [intOf]; omega
    · have hki : ¬ (k : Int) < (N : Int) := by omega
      have HBa : Hid (Bld P P (40 :: tn.data.toList ++ textP (l.zip vs)) wr) := by
        have := HTx.out.b
        rw [List.take_of_length_le (by rw [List.length_zip, HN.out, HN2.out]; omega)] at this
        exact this
      have HBe : Hid (Below w.heap.size w wr) := HTx.out.bel
      have hLk := HLk.out
      rw [List.take_of_length_le (by rw [List.length_zip, HN.out, HN2.out]; omega)] at hLk
      have hP : w.heap.size + 1 = P := HP.out
      clear HTx
      go_wp2_with fail
      refine (write_byte P P _ 41 _ (by rw [Hid]; rfl) wr HBa.out (by omega) (by omega)).mono ?_
      rintro e w2 ⟨rfl, hl2, hb2⟩
      have HB2 : Hid (Bld P P ((40 :: tn.data.toList ++ textP (l.zip vs)) ++ [41]) w2) := hl2
      have HBe2 : Hid (Below w.heap.size w w2) := HBe.out.trans (hb2.mono (by omega))
      have hpw2 : P < w2.heap.size := HB2.out.lt
      clear hl2 hb2
      go_wp2_with fail
      refine (str_any P P _ w2 HB2.out (by omega)).mono ?_
      rintro e w3 ⟨rfl, hb3⟩
      have HBe3 : Hid (Below w.heap.size w w3) := HBe2.out.trans (hb3.mono (by omega))
      clear hb3
      go_wp2
      go_ret
      refine ⟨?_, HBe3.out⟩
      rw [← HZ.out]
      unfold textT
      simp [baL]
end Go.Proofs.YtlniifheapoppaaDoor
