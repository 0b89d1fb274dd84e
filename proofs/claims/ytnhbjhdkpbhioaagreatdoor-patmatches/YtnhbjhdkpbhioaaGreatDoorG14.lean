import Derived.Laws.AppendOwn
import Derived.WalkSmall
import Derived.Deep.LoopGhost
import Derived.Deep.AppendLies
import Derived.Deep.RegionHeld3
import Derived.Lib.AppendStr
import Derived.Deep.RegionLaw
import Derived.Test.YtnhbjhdkpbhioaaGreatDoorG13
import Derived.Test.YtnhbjhdkpbhioaaGreatDoorG3
import Derived.Test.YtnhbjhdkpbhioaaGreatDoorG9
import Derived.Test.YtnhbjhdkpbhioaaGreatDoorG8
namespace Go.Proofs.YtnhbjhdkpbhioaaGreatDoor
open Go.RowKit
theorem snoc_of {α : Type} (l : List α) (h : l ≠ []) : ∃ r x, l = r ++ [x] := ⟨l.dropLast, l.getLast h, (List.dropLast_concat_getLast h).symm⟩
end Go.Proofs.YtnhbjhdkpbhioaaGreatDoor
namespace Go.Proofs.YtnhbjhdkpbhioaaGreatDoor
open Go.RowKit
def NdPt (w : World) (b o : Nat) (x : Nd) : Prop := ∃ ao cap, NdAt w anyB b o x ao cap
theorem NdPt.next {w w' : World} {b o : Nat} {x : Nd} (h : NdPt w b o x) (hb : Below w.heap.size w w') : NdPt w' b o x := by
  obtain ⟨ao, cap, h⟩ := h
  exact ⟨ao, cap, h.next hb⟩
end Go.Proofs.YtnhbjhdkpbhioaaGreatDoor
namespace Go.Proofs.YtnhbjhdkpbhioaaGreatDoor
open Go.RowKit
structure Bt (b : Nat) (w w' : World) : Prop where
  size : w.heap.size ≤ w'.heap.size
  block : ∀ k, k < w.heap.size → k ≠ b → (∀ cur fr, w.heap[k]? ≠ some (.cells cur 5 fr)) → w'.heap[k]? = w.heap[k]?
theorem Bt.refl (b : Nat) (w : World) : Bt b w w := ⟨Nat.le_refl _, fun _ _ _ _ => rfl⟩
theorem Bt.trans {b : Nat} {w1 w2 w3 : World} (h : Bt b w1 w2) (k : Bt b w2 w3) : Bt b w1 w3 :=
  ⟨Nat.le_trans h.size k.size, fun j hj hn hb => by
    have e := h.block j hj hn hb
    rw [k.block j (Nat.lt_of_lt_of_le hj h.size) hn (fun cur fr => by rw [e]; exact hb cur fr), e]⟩
theorem Bt.set (b : Nat) (w : World) (j : Nat) (v : Value) : Bt b w (w.setCell ⟨b, j, none⟩ v) := ⟨by simp [World.setCell], fun k _ hn _ => Below.heap_setCell w _ _ k hn⟩
theorem Bt.alloc (b : Nat) (w : World) (o : Obj) : Bt b w (w.alloc o) := ⟨by simp, fun k hk _ _ => Below.heap_alloc w o k hk⟩
theorem Bt.grown {b : Nat} {w w' : World} {B n : Nat} {v : Value} {xs : List Value} (hg : w.grownBy w' v.ownBlock) (ho : w.ownsRow B 5 1 v n xs) : Bt b w w' :=
  ⟨hg.size, fun k hk _ hb => hg.block k hk fun e => by
    rcases ho.2 with ⟨rfl, _⟩ | ⟨g, cap, cur, rfl, _, hh, _⟩
    · exact absurd e (by simp [Value.ownBlock])
    · have e1 : k = g := by have := e; simp [Value.ownBlock] at this; exact this
      subst e1
      exact hb cur (0, 0) hh⟩
theorem Bt.own {b : Nat} {w w' : World} {B e size n T : Nat} {v : Value} {xs : List Value} {x y : Value} (h : Bt b w w') (ho : w.ownsRow B e size v n xs) (he : e ≠ 5) (hb : w.heap[b]? = some (.cells #[x, y] T (0, 0))) (hT : T ≠ e) : w'.ownsRow B e size v n xs := by
  refine ⟨ho.1, ho.2.elim Or.inl (fun ⟨g, cap, cur, hv, hg, hh, r⟩ => Or.inr ⟨g, cap, cur, hv, hg, ?_, r⟩)⟩
  have hlt : g < w.heap.size := by
    rcases Nat.lt_or_ge g w.heap.size with h1 | h1
    · exact h1
    · rw [Array.getElem?_eq_none h1] at hh; exact absurd hh (by simp)
  rw [h.block g hlt ?_ ?_]
  · exact hh
  · rintro rfl
    rw [hh] at hb
    injection hb with hb
    injection hb with _ hb _
    exact hT hb.symm
  · intro cur' fr e'
    rw [hh] at e'
    injection e' with e'
    injection e' with _ e' _
    exact he e'
theorem check_bt (B b : Nat) (l : List UInt8) (w : World) (h : Bld B b l w) :
    Calls Tryz.prog 128 #[.pointer (some ⟨b, 0, none⟩)] w fun e w' => e = .returned (.tuple #[]) ∧ Lib.BuilderAt 170 5 B b (.pointer (some ⟨b, 0, none⟩)) (Lib.byteCells l) w' ∧ Below B w w' ∧ Bt b w w' := by
  rcases h with h | h
  · refine (check_fresh b w h.cell0 h.shape h.frozen0).mono ?_
    rintro e w' ⟨rfl, rfl⟩
    exact ⟨rfl, h.used _, (Below.refl B w).setCell (p := ⟨b, 0, none⟩) h.1 _, Bt.set b w 0 _⟩
  · refine (check_used b w h.cell0).mono ?_
    rintro e w' ⟨rfl, rfl⟩
    exact ⟨rfl, h, Below.refl B _, Bt.refl b _⟩
set_option maxHeartbeats 1000000 in
set_option maxRecDepth 100000 in
theorem bd_byte (B b : Nat) (l : List UInt8) (c : UInt8) (n : Int) (HN : Hid (n = (c.toNat : Int))) (w : World) (h : Bld B b l w) (hl : l.length ≤ 1000000) (hB : B ≤ w.heap.size) :
    Calls Tryz.prog 129 #[.pointer (some ⟨b, 0, none⟩), .int .u8 n] w fun e w' => e = .returned .nilIface ∧ Bld B b (l ++ [c]) w' ∧ Below B w w' ∧ Bt b w w' := by
  obtain ⟨i0, hi, hz0, hz1, hz2⟩ := inU'
  have hcl : Hid ((Lib.byteCells l).length = l.length) := cells_len l
  go_enter Tryz.func129, Tryz.ntmps129
  go_wp2_with (go_at_call 128; refine (check_bt B b l _ h).mono ?_)
  rintro e w1 ⟨rfl, ⟨hBb, v, hbk, hown, hne⟩, hb1, ht1⟩
  have hz := hb1.size
  have c0 : w1.cell? ⟨b, 0, none⟩ = some (.pointer (some ⟨b, 0, none⟩)) := by rw [Lib.cell_of_heap hbk]; rfl
  have c1 : w1.cell? ⟨b, 1, none⟩ = some v := by rw [Lib.cell_of_heap hbk]; rfl
  go_wp2_with (at_builtin; refine wpList_append_own _ rfl _ _ 22 rfl B 5 i0 (.int .u8 0) 1 1 Tryz.underlying22 hi hz0 hz1 hz2 rfl (by decide) _ _ _ rfl (hown.alloc _) ⟨w1.heap.size, 0, none⟩ 1 1 [.int .u8 n] rfl rfl ?c1 ?c2 ?c3 ?c4 ?c5 ?_)
  case c1 =>
    intro j u hj
    match j, hj with
    | 0, hj => simp at hj; subst hj; simp [Addr.add]
  case c2 => intro u hu; simp at hu; subst hu; rfl
  case c3 => unfold maxLen; rw [hcl.out]; omega
  case c4 => rw [hcl.out]; omega
  case c5 => simp; omega
  intro v' w2 hown' hgrow _
  have hlt : b < w1.heap.size := by
    rcases Nat.lt_or_ge b w1.heap.size with h' | h'
    · exact h'
    · simp [Array.getElem?_eq_none h'] at hbk
  have hb2 : w2.heap[b]? = some (.cells #[.pointer (some ⟨b, 0, none⟩), v] 170 (0, 0)) := by
    rw [hgrow.block b (by simp; omega) (fun e => hne e.symm), Lib.alloc_old w1 _ b hlt]
    exact hbk
  have d0 : w2.cell? ⟨b, 0, none⟩ = some (.pointer (some ⟨b, 0, none⟩)) := by rw [Lib.cell_of_heap hb2]; rfl
  have d1 : w2.cell? ⟨b, 1, none⟩ = some v := by rw [Lib.cell_of_heap hb2]; rfl
  have f1 : w2.frozen? ⟨b, 1, none⟩ = false := Lib.frozen_of_heap hb2 1
  obtain ⟨g, cap, rfl⟩ : ∃ g cap, v' = .slice (some ⟨g, 0, none⟩) ((Lib.byteCells l).length + 1) cap := by
    rcases hown'.2 with ⟨_, h0⟩ | ⟨g, cap, cur, hv, _⟩
    · omega
    · exact ⟨g, cap, hv⟩
  clear hcl
  go_wp2
  go_ret
  refine ⟨rfl, Or.inr ?_, ?_, ?_⟩
  · rw [cells_snoc, ← HN.out]
    exact Lib.BuilderAt.put (T := 170) (e := 5) hBb hb2 (bs' := Lib.byteCells l ++ [.int .u8 n]) (by simpa using hown') (by decide)
  · exact ((hb1.alloc (by omega) _).grown hgrow (by simp; omega) (fun k hk => (hown.lt k hk).1)).setCell (p := ⟨b, 1, none⟩) hBb _
  · exact ((ht1.trans (Bt.alloc b _ _)).trans (Bt.grown hgrow (hown.alloc _))).trans (Bt.set b _ 1 _)
theorem cells_app (l m : List UInt8) : Lib.byteCells (l ++ m) = Lib.byteCells l ++ Lib.byteCells m := by unfold Lib.byteCells; rw [List.map_append]
theorem str_cells (m : List UInt8) : Lib.strCells (baL m) = Lib.byteCells m := by unfold Lib.strCells Lib.byteCells; rfl
set_option maxHeartbeats 1000000 in
set_option maxRecDepth 100000 in
theorem bd_str (B b : Nat) (l m : List UInt8) (s : ByteArray) (HSs : Hid (s = baL m)) (w : World) (h : Bld B b l w) (hl : l.length + m.length ≤ 1000000) (hB : B ≤ w.heap.size) :
    Calls Tryz.prog 110 #[.pointer (some ⟨b, 0, none⟩), .string s] w fun e w' => (∃ n : Int, e = .returned (.tuple #[.int .i64 n, .nilIface])) ∧ Bld B b (l ++ m) w' ∧ Below B w w' ∧ Bt b w w' := by
  obtain ⟨i0, hi, hz0, hz1, hz2⟩ := inU'
  have hcl : Hid ((Lib.byteCells l).length = l.length) := cells_len l
  have hss : s.size ≤ 1000000 := by rw [HSs.out, baL_size]; omega
  have HSz : Hid (s.size = m.length) := by rw [Hid, HSs.out, baL_size]
  go_enter Tryz.func110, Tryz.ntmps110
  go_wp2_with (go_at_call 128; refine (check_bt B b l _ h).mono ?_)
  rintro e w1 ⟨rfl, ⟨hBb, v, hbk, hown, hne⟩, hb1, ht1⟩
  have hz := hb1.size
  have c0 : w1.cell? ⟨b, 0, none⟩ = some (.pointer (some ⟨b, 0, none⟩)) := by rw [Lib.cell_of_heap hbk]; rfl
  have c1 : w1.cell? ⟨b, 1, none⟩ = some v := by rw [Lib.cell_of_heap hbk]; rfl
  go_wp2_with (at_builtin; refine Lib.wpList_append_own_string _ rfl _ _ 22 9 rfl B 5 i0 Tryz.underlying22 Tryz.underlying9 hi hz0 hz1 hz2 _ _ _ rfl hown s rfl ?c3 ?c4 ?c5 ?_)
  case c3 => unfold maxLen; rw [hcl.out]; have := HSz.out; omega
  case c4 => rw [hcl.out]; have := HSz.out; omega
  case c5 => omega
  intro v' w2 hown' hgrow hnil
  have hlt : b < w1.heap.size := by
    rcases Nat.lt_or_ge b w1.heap.size with h' | h'
    · exact h'
    · simp [Array.getElem?_eq_none h'] at hbk
  have hb2 : w2.heap[b]? = some (.cells #[.pointer (some ⟨b, 0, none⟩), v] 170 (0, 0)) := by
    rw [hgrow.block b hlt (fun e => hne e.symm)]
    exact hbk
  have d0 : w2.cell? ⟨b, 0, none⟩ = some (.pointer (some ⟨b, 0, none⟩)) := by rw [Lib.cell_of_heap hb2]; rfl
  have d1 : w2.cell? ⟨b, 1, none⟩ = some v := by rw [Lib.cell_of_heap hb2]; rfl
  have f1 : w2.frozen? ⟨b, 1, none⟩ = false := Lib.frozen_of_heap hb2 1
  obtain ⟨vao, vn, vcap, rfl⟩ : ∃ vao vn vcap, v' = .slice vao vn vcap := by
    rcases hown'.2 with ⟨e, _⟩ | ⟨g, cap, cur, hv, _⟩
    · exact ⟨_, _, _, e⟩
    · exact ⟨_, _, _, hv⟩
  have HX : Hid (w2.ownsRow B 5 1 (.slice vao vn vcap) ((Lib.byteCells l ++ Lib.byteCells m).length) (Lib.byteCells l ++ Lib.byteCells m)) := by
    have e : Lib.strCells s = Lib.byteCells m := by rw [HSs.out, str_cells]
    rw [e] at hown'
    have e2 : (Lib.byteCells l ++ Lib.byteCells m).length = (Lib.byteCells l).length + s.size := by rw [List.length_append, cells_len m, HSz.out]
    rw [Hid, e2]
    exact hown'
  clear hcl
  go_wp2
  go_ret2
  refine ⟨⟨_, rfl⟩, Or.inr ?_, ?_, ?_⟩
  · rw [cells_app]
    exact Lib.BuilderAt.put (T := 170) (e := 5) hBb hb2 (bs' := Lib.byteCells l ++ Lib.byteCells m) HX.out (by decide)
  · exact ((hb1.trans (Below.refl _ _)).grown hgrow (by omega) (fun k hk => (hown.lt k hk).1)).setCell (p := ⟨b, 1, none⟩) hBb _
  · exact (ht1.trans (Bt.grown hgrow hown)).trans (Bt.set b _ 1 _)
end Go.Proofs.YtnhbjhdkpbhioaaGreatDoor
namespace Go.Proofs.YtnhbjhdkpbhioaaGreatDoor
open Go.RowKit
structure Ty (e : Nat) (w w' : World) : Prop where
  size : w.heap.size ≤ w'.heap.size
  block : ∀ k, k < w.heap.size → (∀ cur fr, w.heap[k]? ≠ some (.cells cur e fr)) → w'.heap[k]? = w.heap[k]?
theorem Ty.refl (e : Nat) (w : World) : Ty e w w := ⟨Nat.le_refl _, fun _ _ _ => rfl⟩
theorem Ty.trans {e : Nat} {w1 w2 w3 : World} (h : Ty e w1 w2) (k : Ty e w2 w3) : Ty e w1 w3 :=
  ⟨Nat.le_trans h.size k.size, fun j hj hb => by
    have e' := h.block j hj hb
    rw [k.block j (Nat.lt_of_lt_of_le hj h.size) (fun cur fr => by rw [e']; exact hb cur fr), e']⟩
theorem Ty.alloc (e : Nat) (w : World) (o : Obj) : Ty e w (w.alloc o) := ⟨by simp, fun k hk _ => Below.heap_alloc w o k hk⟩
theorem Ty.grown {e size B n : Nat} {w w' : World} {v : Value} {xs : List Value} (hg : w.grownBy w' v.ownBlock) (ho : w.ownsRow B e size v n xs) : Ty e w w' :=
  ⟨hg.size, fun k hk hb => hg.block k hk fun e' => by
    rcases ho.2 with ⟨rfl, _⟩ | ⟨g, cap, cur, rfl, _, hh, _⟩
    · exact absurd e' (by simp [Value.ownBlock])
    · have e1 : k = g := by have := e'; simp [Value.ownBlock] at this; exact this
      subst e1
      exact hb cur (0, 0) hh⟩
theorem Ty.drew {e : Nat} {w w' : World} (h : Ty e w w') : Ty e w w'.drew := ⟨h.size, h.block⟩
theorem Ty.own {e e' size B n : Nat} {w w' : World} {v : Value} {xs : List Value} (h : Ty e w w') (ho : w.ownsRow B e' size v n xs) (he : e' ≠ e) : w'.ownsRow B e' size v n xs := by
  refine ⟨ho.1, ho.2.elim Or.inl (fun ⟨g, cap, cur, hv, hg, hh, r⟩ => Or.inr ⟨g, cap, cur, hv, hg, ?_, r⟩)⟩
  have hlt : g < w.heap.size := by
    rcases Nat.lt_or_ge g w.heap.size with h1 | h1
    · exact h1
    · rw [Array.getElem?_eq_none h1] at hh; exact absurd hh (by simp)
  rw [h.block g hlt fun cur' fr e'' => ?_]
  · exact hh
  · rw [hh] at e''
    injection e'' with e''
    injection e'' with _ e'' _
    exact he e''
theorem Ty.bld {B b : Nat} {l : List UInt8} {w w' : World} (h : Ty 215 w w') (hb : Bld B b l w) : Bld B b l w' := by
  have key : ∀ p, Lib.BuilderAt 170 5 B b p (Lib.byteCells l) w → Lib.BuilderAt 170 5 B b p (Lib.byteCells l) w' := by
    rintro p ⟨h1, v, h2, h3, h4⟩
    refine ⟨h1, v, ?_, h.own h3 (by decide), h4⟩
    have hlt : b < w.heap.size := by
      rcases Nat.lt_or_ge b w.heap.size with h' | h'
      · exact h'
      · simp [Array.getElem?_eq_none h'] at h2
    rw [h.block b hlt fun cur fr e => ?_]
    · exact h2
    · rw [h2] at e
      injection e with e
      injection e with _ e _
      exact absurd e (by decide)
  exact hb.imp (key _) (key _)
structure Stp where
  sg : List UInt8
  nd : Option (Nat × Nat × Nd)
def stpC (e : Stp) : List Value := [.string (baL e.sg), .pointer (e.nd.map fun p => ⟨p.1, p.2.1, none⟩)]
def stpT (e : Stp) : List UInt8 := e.sg ++ (match e.nd with | none => [] | some p => txtN p.2.2)
def stpM (e : Stp) : Nat := match e.nd with | none => 1 | some p => 2 * cntN p.2.2
def StpOk (W : World) (e : Stp) : Prop := ∀ b o x, e.nd = some (b, o, x) → NdPt W b o x ∧ WfN x
def stC (st : List Stp) : List Value := st.flatMap stpC
theorem stC_app (x y : List Stp) : stC (x ++ y) = stC x ++ stC y := by unfold stC; rw [List.flatMap_append]
theorem stC_len (st : List Stp) : (stC st).length = st.length * 2 := by
  induction st with
  | nil => rfl
  | cons e r ih =>
    show (stpC e ++ stC r).length = _
    rw [List.length_append, ih]
    show 2 + r.length * 2 = (r.length + 1) * 2
    omega
def remT (st : List Stp) : List UInt8 := st.foldl (fun acc e => stpT e ++ acc) []
theorem remT_snoc (r : List Stp) (e : Stp) : remT (r ++ [e]) = stpT e ++ remT r := by unfold remT; rw [List.foldl_append]; rfl
def stM (st : List Stp) : Nat := (st.map stpM).sum
theorem stM_app (x y : List Stp) : stM (x ++ y) = stM x + stM y := by unfold stM; rw [List.map_append, List.sum_append]
theorem stM_one (e : Stp) : stM [e] = stpM e := by simp [stM]
theorem stpM_pos (e : Stp) : 1 ≤ stpM e := by
  unfold stpM
  split
  · omega
  · have := cntN_pos (by assumption : Nat × Nat × Nd).2.2; omega
theorem stM_len (st : List Stp) : st.length ≤ stM st := by
  induction st with
  | nil => exact Nat.le_refl _
  | cons e r ih =>
    have t1 : stM (e :: r) = stM [e] + stM r := stM_app [e] r
    have := stpM_pos e
    rw [t1, stM_one, List.length_cons]; omega
def sepR (sg : List UInt8) : List Nd → List UInt8
  | [] => []
  | x :: r => sg ++ (txtN x ++ sepR sg r)
def sepT (sg : List UInt8) : List Nd → List UInt8
  | [] => []
  | x :: r => txtN x ++ sepR sg r
theorem sepR_txt : ∀ l : List Nd, sepR [32] l = txtR l
  | [] => by rw [txtR_nil]; rfl
  | x :: r => by rw [txtR_cons, ← sepR_txt r]; rfl
theorem sepT_txt (l : List Nd) : sepT [32] l = txtB l := by
  cases l with
  | nil => rw [txtB_nil]; rfl
  | cons x r => rw [txtB_cons, ← sepR_txt r]; rfl
theorem sepT_one (x : Nd) : sepT [] [x] = txtB [x] := by rw [txtB_cons, txtR_nil]; rfl
theorem inSt : (Tryz.prog.info? 215).map (fun i => (i.zero, i.size, i.bytes)) = some (some (.agg #[.string ⟨#[]⟩, .pointer none]), 2, 24) := by kernel_rfl
theorem inSt' : ∃ i, Tryz.prog.info? 215 = some i ∧ i.zero = some (.agg #[.string ⟨#[]⟩, .pointer none]) ∧ i.size = 2 ∧ i.bytes = 24 := by
  obtain ⟨i, h, e⟩ := Option.map_eq_some_iff.1 inSt
  simp only [Prod.mk.injEq] at e
  exact ⟨i, h, e.1, e.2.1, e.2.2⟩
structure StAt (Wn w : World) (B : Nat) (v : Value) (st : List Stp) : Prop where
  own : w.ownsRow B 215 2 v st.length (stC st)
  ok : ∀ e ∈ st, StpOk Wn e
theorem stAt_push {Wn w w' : World} {B : Nat} {v v' : Value} {st : List Stp} {e : Stp} (h : StAt Wn w B v st) (ho : w'.ownsRow B 215 2 v' (st.length + 1) (stC st ++ stpC e)) (he : StpOk Wn e) : StAt Wn w' B v' (st ++ [e]) := by
  refine ⟨?_, fun x hx => ?_⟩
  · rw [stC_app, List.length_append]
    have : stC [e] = stpC e := by unfold stC; simp
    rw [this]
    exact ho
  · rcases List.mem_append.1 hx with hx | hx
    · exact h.ok x hx
    · rw [List.mem_singleton.1 hx]; exact he
structure KidR (Wn : World) (B : Nat) (st : List Stp) (T : List UInt8) (M : Nat) (w w' : World) (e : Ending) : Prop where
  res : ∃ v' ks, e = .returned v' ∧ StAt Wn w' B v' (st ++ ks) ∧ remT (st ++ ks) = T ++ remT st ∧ stM ks = M
  bel : Below B w w'
  ty : Ty 215 w w'
set_option maxHeartbeats 8000000 in
set_option maxRecDepth 20000 in
theorem addKids_any (B : Nat) (Wn : World) (v : Value) (st : List Stp) (kao : Option Addr) (kcap : Nat) (l : List Nd) (sg : List UInt8) (s : ByteArray) (hss : s = baL sg) (w : World)
    (hS : StAt Wn w B v st) (hk : IsNds Wn anyB kao l) (hwf : WfL l) (hW : Below Wn.heap.size Wn w) (hB : B ≤ w.heap.size) (hm : stM st + 2 * cntL l ≤ 400000) :
    Calls Tryz.prog 130 #[v, .slice kao l.length kcap, .string s] w fun e w' => KidR Wn B st (sepT sg l) (2 * cntL l) w w' e := by
  obtain ⟨i0, hi, hz0, hz1, hz2⟩ := inSt'
  obtain ⟨q, Hq⟩ : ∃ q, Hid (l.length = q) := ⟨_, rfl⟩
  rw [Hq.out]
  have hql := cntL_len l
  rw [Hq.out] at hql
  have hsl := stM_len st
  obtain ⟨m, Hm⟩ : ∃ m, Hid (st.length = m) := ⟨_, rfl⟩
  rw [Hm.out] at hsl
  have HS : Hid (StAt Wn w B v st) := hS
  have HK : Hid (IsNds Wn anyB kao l) := hk
  have HWl : Hid (WfL l) := hwf
  have HW : Hid (Below Wn.heap.size Wn w) := hW
  have HSs : Hid (s = baL sg) := hss
  clear hS hk hwf hW hss
  go_enter Tryz.func130, Tryz.ntmps130
  go_wp2
  go_loopw [0, 7] (fun v' i' wr => ∃ (t : Nat) (ks : List Stp) (J : Int), (t + 1 ≤ q ∨ t = 0) ∧ J = (q : Int) - 1 - (t : Int) ∧ i' = .int .i64 J ∧ ks.length = t ∧ Hid (StAt Wn wr B v' (st ++ ks)) ∧ Hid (remT (st ++ ks) = sepR sg (l.drop (q - t)) ++ remT st) ∧ Hid (stM ks = 2 * cntL (l.drop (q - t))) ∧ Hid (Below B w wr ∧ Ty 215 w wr)) (fun _ i' _ => (intOf i').toNat)
  case atStart => exact ⟨0, [], _, .inr rfl, by omega, rfl, rfl, by rw [Hid, List.append_nil]; exact HS, by rw [Hid, List.append_nil, Nat.sub_zero, List.drop_eq_nil_of_le (by rw [Hq.out]; exact Nat.le_refl _)]; rfl, by rw [Hid, Nat.sub_zero, List.drop_eq_nil_of_le (by rw [Hq.out]; exact Nat.le_refl _), cntL_nil]; rfl, Below.refl _ _, Ty.refl _ _⟩
  case round =>
    obtain ⟨t, ks, J, ht, hJ, rfl, hkl, HSt, HRt, HMt, HBt⟩ := hrel
    have HKl : Hid (ks.length = t) := hkl
    have hBr : B ≤ wr.heap.size := Nat.le_trans hB HBt.out.1.size
    have hlen2 : (st ++ ks).length = m + t := by rw [List.length_append, Hm.out, HKl.out]
    have HOl : Hid (wr.ownsRow B 215 2 u0 (m + t) (stC (st ++ ks))) := by rw [Hid, ← hlen2]; exact HSt.out.own
    have HOb : Hid (∀ k, u0.ownBlock = some k → B ≤ k) := fun k hk => (HOl.out.lt k hk).1
    clear hkl
    by_cases hpos : 1 + t < q
    · obtain ⟨j, hj⟩ : ∃ j : Nat, J = (j : Int) := ⟨q - 1 - t, by omega⟩
      subst hj
      have hli : (0 : Int) < (j : Int) := by omega
      have hjq : (j : Int) < (q : Int) := by omega
      have hj0 : (0 : Int) ≤ (j : Int) := by omega
      have HJ : Hid ((j : Int) = (q : Int) - 1 - (t : Int)) := hJ
      obtain ⟨y, hy⟩ : ∃ y, l[j]? = some y := ⟨_, List.getElem?_eq_getElem (by rw [Hq.out]; omega)⟩
      obtain ⟨b, o, ao', cap', e1, hA⟩ := HK.out.at hy
      subst e1
      have HE : Hid (StpOk Wn ⟨sg, some (b, o + j * 5, y)⟩) := fun b' o' x' h => by
        have e := Option.some.inj h
        injection e with e1 e2
        injection e2 with e2 e3
        subst e1 e2 e3
        exact ⟨⟨_, _, hA⟩, WfL_mem HWl.out y (List.mem_of_getElem? hy)⟩
      have HDr : Hid (l.drop (q - (t + 1)) = y :: l.drop (q - t)) := by
        obtain ⟨h1, h2⟩ := List.getElem?_eq_some_iff.1 hy
        have e : q - (t + 1) = j := by omega
        rw [Hid, e, List.drop_eq_getElem_cons h1, h2]
        congr 2
        omega
      have hmt : m + t ≤ 400000 := by omega
      clear hJ hy hA hlen2
      go_wp2_with (at_builtin; refine wpList_append_own _ rfl _ _ 216 rfl B 215 i0 (.agg #[.string ⟨#[]⟩, .pointer none]) 2 24 Tryz.underlying216 hi hz0 hz1 hz2 rfl (by decide) _ _ _ rfl (HOl.out.alloc _) ⟨wr.heap.size, 0, none⟩ 1 1 [.string s, .pointer (some ⟨b, o + j * 5, none⟩)] rfl rfl ?c1 ?c2 ?c3 ?c4 ?c5 ?_)
      case c1 =>
        intro z u hz
        match z, hz with
        | 0, hz => simp at hz; subst hz; simp [Addr.add]
        | 1, hz => simp at hz; subst hz; simp [Addr.add]
      case c2 => intro u hu; simp at hu; rcases hu with rfl | rfl <;> rfl
      case c3 => unfold maxLen; omega
      case c4 => omega
      case c5 => simp; omega
      intro s2 w3 ho hg _
      have HS3 : Hid (StAt Wn w3 B s2 (st ++ (ks ++ [(⟨sg, some (b, o + j * 5, y)⟩ : Stp)]))) := by
        rw [Hid, ← List.append_assoc]
        refine stAt_push HSt.out ?_ HE.out
        rw [HSs.out] at ho
        rw [List.length_append, Hm.out, HKl.out]
        exact ho
      have HR3 : Hid (remT (st ++ (ks ++ [(⟨sg, some (b, o + j * 5, y)⟩ : Stp)])) = sepR sg (l.drop (q - (t + 1))) ++ remT st) := by
        rw [Hid, ← List.append_assoc, remT_snoc, HRt.out, HDr.out]
        show (sg ++ txtN y) ++ _ = (sg ++ (txtN y ++ sepR sg _)) ++ _
        simp
      have HM3 : Hid (stM (ks ++ [(⟨sg, some (b, o + j * 5, y)⟩ : Stp)]) = 2 * cntL (l.drop (q - (t + 1)))) := by
        rw [Hid, stM_app, stM_one, HMt.out, HDr.out, cntL_cons]
        show 2 * cntL _ + 2 * cntN y = _
        omega
      have HB3 : Hid (Below B w w3 ∧ Ty 215 w w3) :=
        ⟨(HBt.out.1.trans ((Below.refl _ wr).alloc hBr _)).grown hg (by simp; omega) (fun k hk => HOb.out k hk), (HBt.out.2.trans (Ty.alloc _ _ _)).trans (Ty.grown hg (HOl.out.alloc _))⟩
      have HKl3 : Hid ((ks ++ [(⟨sg, some (b, o + j * 5, y)⟩ : Stp)]).length = t + 1) := by rw [Hid, List.length_append, HKl.out]; rfl
      clear ho hg
      go_wp2
      go_roundw
      case rel => exact ⟨t + 1, _, (j : Int) - 1, by omega, by have := HJ.out; omega, by go_num, HKl3.out, HS3, HR3, HM3, HB3⟩
      case measure => simp [intOf]; omega
    · have hli : ¬ (0 : Int) < J := by omega
      by_cases hq0 : q = 0
      · subst hq0
        have HL : Hid (l = []) := List.eq_nil_of_length_eq_zero Hq.out
        have HFin : Hid (∃ v' ks', u0 = v' ∧ StAt Wn wr B v' (st ++ ks') ∧ remT (st ++ ks') = sepT sg l ++ remT st ∧ stM ks' = 2 * cntL l) := by
          refine ⟨u0, ks, rfl, HSt.out, ?_, ?_⟩
          · rw [HRt.out, HL.out]; simp [sepR, sepT]
          · rw [HMt.out, HL.out]; simp
        clear hJ
        go_wp2
        go_ret
        obtain ⟨v', ks', e, h1, h2, h3⟩ := HFin.out
        exact ⟨⟨v', ks', by rw [← e]; rfl, h1, h2, h3⟩, HBt.out.1, HBt.out.2⟩
      · have hqp : (0 : Int) < (q : Int) := by omega
        have htq : t + 1 = q := by omega
        obtain ⟨y, hy⟩ : ∃ y, l[0]? = some y := ⟨_, List.getElem?_eq_getElem (by rw [Hq.out]; omega)⟩
        obtain ⟨b, o, ao', cap', e1, hA⟩ := HK.out.at hy
        rw [Nat.zero_mul, Nat.add_zero] at hA
        subst e1
        have HE : Hid (StpOk Wn ⟨[], some (b, o, y)⟩) := fun b' o' x' h => by
          have e := Option.some.inj h
          injection e with e1 e2
          injection e2 with e2 e3
          subst e1 e2 e3
          exact ⟨⟨_, _, hA⟩, WfL_mem HWl.out y (List.mem_of_getElem? hy)⟩
        have HDr : Hid (l = y :: l.drop (q - t)) := by
          obtain ⟨h1, h2⟩ := List.getElem?_eq_some_iff.1 hy
          have e := List.drop_eq_getElem_cons h1
          rw [List.drop_zero, h2] at e
          have e2 : q - t = 0 + 1 := by omega
          rw [Hid, e2]
          exact e
        have hmt : m + t ≤ 400000 := by omega
        clear hJ hy hA hlen2
        go_wp2_with (at_builtin; refine wpList_append_own _ rfl _ _ 216 rfl B 215 i0 (.agg #[.string ⟨#[]⟩, .pointer none]) 2 24 Tryz.underlying216 hi hz0 hz1 hz2 rfl (by decide) _ _ _ rfl (HOl.out.alloc _) ⟨wr.heap.size, 0, none⟩ 1 1 [.string ⟨#[]⟩, .pointer (some ⟨b, o, none⟩)] rfl rfl (World.news_of_block (cs := #[.string ⟨#[]⟩, .pointer (some ⟨b, o, none⟩)]) (t := 215) (fr := (0, 0)) (heap_alloc_new wr _)) (by simp [Value.oneCell']) (by unfold maxLen; omega) (by omega) (by simp; omega) ?_)
        intro s2 w3 ho hg _
        have HS3 : Hid (StAt Wn w3 B s2 (st ++ (ks ++ [(⟨[], some (b, o, y)⟩ : Stp)]))) := by
          rw [Hid, ← List.append_assoc]
          refine stAt_push HSt.out ?_ HE.out
          rw [List.length_append, Hm.out, HKl.out]
          exact ho
        have HR3 : Hid (remT (st ++ (ks ++ [(⟨[], some (b, o, y)⟩ : Stp)])) = sepT sg l ++ remT st) := by
          rw [Hid, ← List.append_assoc, remT_snoc, HRt.out]
          conv => rhs; rw [HDr.out]
          show ([] ++ txtN y) ++ _ = (txtN y ++ sepR sg _) ++ _
          simp
        have HM3 : Hid (stM (ks ++ [(⟨[], some (b, o, y)⟩ : Stp)]) = 2 * cntL l) := by
          rw [Hid, stM_app, stM_one, HMt.out]
          conv => rhs; rw [HDr.out, cntL_cons]
          show 2 * cntL _ + 2 * cntN y = _
          omega
        have HB3 : Hid (Below B w w3 ∧ Ty 215 w w3) :=
          ⟨(HBt.out.1.trans ((Below.refl _ wr).alloc hBr _)).grown hg (by simp; omega) (fun k hk => HOb.out k hk), (HBt.out.2.trans (Ty.alloc _ _ _)).trans (Ty.grown hg (HOl.out.alloc _))⟩
        clear ho hg
        go_wp2
        go_ret
        exact ⟨⟨s2, _, rfl, HS3.out, HR3.out, HM3.out⟩, HB3.out.1, HB3.out.2⟩
end Go.Proofs.YtnhbjhdkpbhioaaGreatDoor
namespace Go.Proofs.YtnhbjhdkpbhioaaGreatDoor
open Go.RowKit
theorem Bld.heap {B b : Nat} {l : List UInt8} {w : World} (h : Bld B b l w) : ∃ x y, w.heap[b]? = some (.cells #[x, y] 170 (0, 0)) := by
  rcases h with ⟨_, v, h, _⟩ | ⟨_, v, h, _⟩
  · exact ⟨_, _, h⟩
  · exact ⟨_, _, h⟩
theorem StAt.bt {Wn w w' : World} {B b : Nat} {v : Value} {st : List Stp} {l : List UInt8} (h : StAt Wn w B v st) (hb : Bt b w w') (hl : Bld B b l w) : StAt Wn w' B v st := by
  obtain ⟨x, y, hh⟩ := hl.heap
  exact ⟨hb.own h.own (by decide) hh (by decide), h.ok⟩
theorem Bld.next {B b : Nat} {l : List UInt8} {w w' : World} (h : Bld B b l w) (hb : Below w.heap.size w w') : Bld B b l w' := by
  have key : ∀ p, Lib.BuilderAt 170 5 B b p (Lib.byteCells l) w → Lib.BuilderAt 170 5 B b p (Lib.byteCells l) w' := by
    rintro p ⟨h1, v, h2, h3, h4⟩
    refine ⟨h1, v, ?_, own_next h3 hb, h4⟩
    have hlt : b < w.heap.size := by
      rcases Nat.lt_or_ge b w.heap.size with h' | h'
      · exact h'
      · simp [Array.getElem?_eq_none h'] at h2
    rw [hb.block b hlt]
    exact h2
  exact h.imp (key _) (key _)
theorem below_cell {B : Nat} {w w' : World} {p : Addr} {v : Value} (h : Below B w w') (hp : p.block < B) (hc : w.cell? p = some v) : w'.cell? p = some v := by rw [h.cell hp]; exact hc
structure BegR (Wn : World) (B b : Nat) (st : List Stp) (l T : List UInt8) (M : Nat) (w w' : World) (e : Ending) : Prop where
  res : ∃ v' ks l2, e = .returned v' ∧ StAt Wn w' B v' (st ++ ks) ∧ Bld B b l2 w' ∧ l2 ++ remT (st ++ ks) = l ++ (T ++ remT st) ∧ stM ks < M
  bel : Below B w w'
set_option maxHeartbeats 8000000 in
set_option maxRecDepth 20000 in
theorem begin_any (B b nb no : Nat) (Wn : World) (v : Value) (st : List Stp) (x : Nd) (l : List UInt8) (w : World)
    (hL : Bld B b l w) (hS : StAt Wn w B v st) (hx : NdPt Wn nb no x) (hwf : WfN x) (hW : Below Wn.heap.size Wn w) (hWB : Wn.heap.size ≤ B) (hB : B ≤ w.heap.size) (ht : TabW Wn) (hm : stM st + 2 * cntN x ≤ 400000) (hll : l.length + (txtN x).length ≤ 900000) :
    Calls Tryz.prog 111 #[.pointer (some ⟨b, 0, none⟩), .pointer (some ⟨nb, no, none⟩), v] w fun e w' => BegR Wn B b st l (txtN x) (2 * cntN x) w w' e := by
  obtain ⟨kao, kcap, hA⟩ := hx
  obtain ⟨k, a, i, s, kl⟩ := x
  obtain ⟨c0, c1, c2, c3, c4, hkc, hkk⟩ := hA
  simp only at c0 c1 c2 c3 c4 hkc hkk
  have hnb : nb < Wn.heap.size := World.block_lt_of_cell? Wn ⟨nb, _, none⟩ c0
  have k0 := keep_cell hW c0
  have k2 := keep_cell hW c2
  have k3 := keep_cell hW c3
  have k4 := keep_cell hW c4
  obtain ⟨q, Hq⟩ : ∃ q, Hid (kl.length = q) := ⟨_, rfl⟩
  have HAK : Hid (∀ (v : Value) (st : List Stp) (sg : List UInt8) (s : ByteArray) (w : World), WfL kl → s = baL sg → StAt Wn w B v st → Below Wn.heap.size Wn w → B ≤ w.heap.size → stM st + 2 * cntL kl ≤ 400000 →
      Calls Tryz.prog 130 #[v, .slice kao q kcap, .string s] w fun e w' => KidR Wn B st (sepT sg kl) (2 * cntL kl) w w' e) := fun v st sg s w h0 h1 h2 h3 h4 h5 => by
    rw [← Hq.out]; exact addKids_any B Wn v st kao kcap kl sg s h1 w h2 hkk h0 h3 h4 h5
  rw [Hq.out] at k4
  have HL : Hid (Bld B b l w) := hL
  have HS : Hid (StAt Wn w B v st) := hS
  have HW : Hid (Below Wn.heap.size Wn w) := hW
  rw [cntN_mk] at hm
  rw [WfN_mk] at hwf
  rw [txtN_mk] at hll
  have hsl := stM_len st
  clear hL hS hW c0 c1 c2 c3 c4 hkk
  rcases hwf with ⟨rfl, rfl, rfl, hl⟩ | ⟨rfl, rfl, rfl, k', a', i', s', rfl, hu⟩ | ⟨hu, rfl⟩
  · rw [if_pos rfl] at hll
    have HWf : Hid (WfL kl) := hl
    have hlb : l.length ≤ 1000000 := by omega
    obtain ⟨i0, hi, hz0, hz1, hz2⟩ := inSt'
    obtain ⟨m, Hm⟩ : ∃ m, Hid (st.length = m) := ⟨_, rfl⟩
    rw [Hm.out] at hsl
    clear hl k2 k3
    go_enter Tryz.func111, Tryz.ntmps111
    go_wp2_with fail
    refine (bd_byte B b l 40 40 rfl _ HL.out hlb hB).mono ?_
    rintro e w1 ⟨rfl, hL1, hb1, ht1⟩
    have HL1 : Hid (Bld B b (l ++ [40]) w1) := hL1
    have HS1 : Hid (StAt Wn w1 B v st) := HS.out.bt ht1 HL.out
    have q4 := below_cell hb1 (p := ⟨nb, no + 4, none⟩) (by show nb < B; omega) k4
    have hB1 : B ≤ w1.heap.size := Nat.le_trans hB hb1.size
    have HB1 : Hid (Below B w w1) := hb1
    have HW1 : Hid (Below Wn.heap.size Wn w1) := HW.out.trans (hb1.mono hWB)
    have HOl : Hid (w1.ownsRow B 215 2 v m (stC st)) := by rw [Hid, ← Hm.out]; exact HS1.out.own
    have HOb : Hid (∀ k, v.ownBlock = some k → B ≤ k) := fun k hk => (HOl.out.lt k hk).1
    have hnb1 : nb < w1.heap.size := by omega
    have hmb : m ≤ 400000 := by omega
    clear hL1 hb1 ht1 k0 k4
    go_wp2_with fail
    go_region_law (first
      | (go_simp; go_at_call 130; refine (HAK.out _ (st ++ [⟨[41], none⟩]) [32] _ _ HWf.out rfl HS2 HW2 hB2 (by rw [stM_app, stM_one]; show _ + 1 + _ ≤ _; omega)).mono ?_; intro e w3 hres3; obtain ⟨v3, ks, rfl, hSt3, hRt3, hMt3⟩ := hres3.res)
      | ((refine step_append_lies _ (by rfl) _ _ _ (by rfl) B 215 i0 (.agg #[.string ⟨#[]⟩, .pointer none]) 2 24 Tryz.underlying216 hi hz0 hz1 hz2 rfl (by decide) v m (stC st) (by rfl) ((HOl.out.drew).alloc _) ⟨w1.heap.size, 0, none⟩ 1 1 [.string ⟨#[41]⟩, .pointer none] (by rfl) (by rfl) (World.news_of_block (cs := #[.string ⟨#[41]⟩, .pointer none]) (t := 215) (fr := (0, 0)) (heap_alloc_new w1.drew _)) (by simp [Value.oneCell']) (by decide) (by unfold maxLen; omega) (by omega) (by simp; omega) (w1.heap.size + 1) (by simp) ?_; intro g2 gcap w2 hown2 hgrow hat2 hlt2; have z4 := hgrow.cell (a := ⟨nb, no + 4, none⟩) (alloc_cell q4) (fun e => by have h9 : B ≤ nb := HOb.out _ e.symm; omega); have HS2 := stAt_push (e := ⟨[41], none⟩) HS1.out (by rw [Hm.out]; exact hown2) (fun b o x h => by simp at h); have hW9 : Below B w1 w2 := (((Below.refl _ w1).drew).alloc hB1 _).grown hgrow (by simp; omega) (fun k hk => HOb.out k hk); have HW2 := HW1.out.trans (hW9.mono hWB); have hB2 : B ≤ w2.heap.size := Nat.le_trans hB1 hW9.size; have hnb2 : nb < w2.heap.size := (by omega); have hT2 : Ty 215 w1 w2 := ((Ty.refl _ w1).drew.trans ((Ty.alloc _ w1.drew _).trans (Ty.grown hgrow ((HOl.out.drew).alloc _)))))))
    all_goals
      have HFin : Hid (BegR Wn B b st l (txtN ⟨0, a, 0, [], kl⟩) (2 * cntN ⟨0, a, 0, [], kl⟩) w w3 (.returned v3)) := by
        refine ⟨⟨v3, [⟨[41], none⟩] ++ ks, l ++ [40], rfl, ?_, hres3.ty.bld (hT2.bld HL1.out), ?_, ?_⟩, (HB1.out.trans hW9).trans hres3.bel⟩
        · rw [← List.append_assoc]; exact hSt3
        · rw [← List.append_assoc, hRt3, remT_snoc, sepT_txt, txtN_mk, if_pos rfl]
          show _ ++ (_ ++ (([41] ++ []) ++ _)) = _
          simp
        · rw [stM_app, stM_one, hMt3, cntN_mk]
          show 1 + _ < _
          omega
      clear hres3 hSt3 hRt3 hMt3 hown2 hgrow hat2 HS2 HW2 hT2 hW9 z4 q4
      go_wp2
      go_ret
      exact HFin.out
  · rw [if_neg (by decide), if_pos rfl] at hll
    have HWf : Hid (WfL [(⟨k', a', i', s', []⟩ : Nd)]) := by rw [Hid, WfL_cons]; exact ⟨leaf_wf a' hu, WfL_nil⟩
    have hlb : l.length ≤ 1000000 := by omega
    clear hu k2 k3
    go_enter Tryz.func111, Tryz.ntmps111
    go_wp2_with fail
    refine (bd_byte B b l 126 126 rfl _ HL.out hlb hB).mono ?_
    rintro e w1 ⟨rfl, hL1, hb1, ht1⟩
    have HL1 : Hid (Bld B b (l ++ [126]) w1) := hL1
    have HS1 : Hid (StAt Wn w1 B v st) := HS.out.bt ht1 HL.out
    have q4 := below_cell hb1 (p := ⟨nb, no + 4, none⟩) (by show nb < B; omega) k4
    have hB1 : B ≤ w1.heap.size := Nat.le_trans hB hb1.size
    have HB1 : Hid (Below B w w1) := hb1
    have HW1 : Hid (Below Wn.heap.size Wn w1) := HW.out.trans (hb1.mono hWB)
    clear hL1 hb1 ht1 k0 k4
    go_wp2_with fail
    refine (HAK.out _ st [] _ _ HWf.out rfl HS1.out HW1.out hB1 (by omega)).mono ?_
    intro e w3 hres3
    obtain ⟨v3, ks, rfl, hSt3, hRt3, hMt3⟩ := hres3.res
    have HFin : Hid (BegR Wn B b st l (txtN ⟨8, a, 0, [], [⟨k', a', i', s', []⟩]⟩) (2 * cntN ⟨8, a, 0, [], [⟨k', a', i', s', []⟩]⟩) w w3 (.returned v3)) := by
      refine ⟨⟨v3, ks, l ++ [126], rfl, hSt3, hres3.ty.bld HL1.out, ?_, ?_⟩, HB1.out.trans hres3.bel⟩
      · rw [hRt3, sepT_one, txtN_mk, if_neg (by decide), if_pos rfl]
        simp
      · rw [hMt3, cntN_mk]
        omega
    clear hres3 hSt3 hRt3 hMt3 q4
    go_wp2
    go_ret
    exact HFin.out
  · have hk' := wfU_kind hu
    rw [if_neg (by omega), if_neg (by omega)] at hll
    obtain ⟨hs1, hs2⟩ := wf_bd hu.1
    obtain ⟨Y, HY⟩ : ∃ Y, Hid (baL s = Y) := ⟨_, rfl⟩
    rw [HY.out] at k3
    obtain ⟨X, HX⟩ : ∃ X, Hid (tokS k i Y = X) := ⟨_, rfl⟩
    have HXs : Hid (X = baL (tokL k i s)) := by
      rw [Hid, ← HX.out, ← HY.out]
      unfold tokL
      exact ByteArray.ext rfl
    have d0 : (k == 0) = false := by simp; omega
    have d8 : (k == 8) = false := by simp; omega
    have HTx : Hid (∀ w', Below Wn.heap.size Wn w' → Calls Tryz.prog 131 #[.agg #[.int .i64 (k), .int .i64 (0), .int .i64 (i), .string (Y)]] w' fun e w2 => e = .returned (.string X) ∧ Below w'.heap.size w' w2) := fun w' hb => by
      rw [← HX.out]
      exact lex_text k 0 i Y w' (by unfold isKind; omega) (by rw [← HY.out, baL_size]; omega) hs2 (tab_next ht hb)
    have HTt : Hid (txtN ⟨k, a, i, s, []⟩ = tokL k i s) := by rw [Hid, txtN_mk, if_neg (by omega), if_neg (by omega)]
    have hl2 : l.length + (tokL k i s).length ≤ 1000000 := by omega
    have HL2 : Hid (l.length + (tokL k i s).length ≤ 1000000) := hl2
    have s0 : Below Wn.heap.size Wn w.drew := HW.out.drew
    have s1 : Below w.heap.size w w.drew := (Below.refl _ _).drew
    have HLn : ∀ w2, Below w.drew.heap.size w.drew w2 → Bld B b l w2 := fun w2 h => (HL.out.next s1).next h
    have HBn : ∀ w2, Below w.drew.heap.size w.drew w2 → B ≤ w2.heap.size := fun w2 h => Nat.le_trans hB h.size
    clear hk' hs1 hs2 hu hll hl2 k4
    go_enter Tryz.func111, Tryz.ntmps111
    go_wp2_with fail
    go_region_held3 (fun w' => w'.cell? ⟨nb, no, none⟩ = some (.int .i64 k) ∧ w'.cell? ⟨nb, no + 2, none⟩ = some (.int .i64 i) ∧ w'.cell? ⟨nb, no + 3, none⟩ = some (.string Y))
      (first
        | ((try dsimp only); go_split_ands; refine ⟨?_, ?_, ?_⟩ <;> first | assumption | exact keep_cell (by assumption) (by assumption) | exact below_cell (by assumption) (by show nb < B; omega) (by assumption)))
      (first
        | (go_at_call 131; refine (HTx.out _ s0).mono ?_; rintro e w2 ⟨rfl, hb2⟩)
        | (go_at_call 110; refine (bd_str B b l (tokL k i s) X HXs.out w2 (HLn w2 hb2) HL2.out (HBn w2 hb2)).mono ?_; rintro e w3 ⟨⟨n3, rfl⟩, hL3, hb3, ht3⟩))
    all_goals
      have HFin : Hid (BegR Wn B b st l (txtN ⟨k, a, i, s, []⟩) (2 * cntN ⟨k, a, i, s, []⟩) w w3 (.returned v)) := by
        have hS2 : StAt Wn w2 B v st := ⟨own_next (own_next HS.out.own s1) hb2, HS.out.ok⟩
        refine ⟨⟨v, [], l ++ tokL k i s, rfl, by rw [List.append_nil]; exact hS2.bt ht3 (HLn w2 hb2), hL3, by rw [List.append_nil, HTt.out, List.append_assoc], ?_⟩, ?_⟩
        · rw [cntN_mk]
          show 0 < _
          omega
        · exact ((next_trans s1 hb2).mono hB).trans hb3
      go_split_ands
      clear hL3 hb3 ht3 hb2 HLn HBn
      go_wp2
      go_ret
      exact HFin.out
end Go.Proofs.YtnhbjhdkpbhioaaGreatDoor
namespace Go.Proofs.YtnhbjhdkpbhioaaGreatDoor
open Go.RowKit
theorem steps_to (ao : Option Addr) (n cap k : Nat) (K : Int) (w : World) (hK : K = (k : Int)) (hk : k ≤ n) (hn : n ≤ cap) :
    (Instr.slice 216 (.slice ao n cap) none (some (.int .i64 K)) none).run Tryz.prog w = .ok (.slice ao k cap) w := by
  subst hK
  have h := run_slice_h (P := Tryz.prog) w 216 ao n cap (by kernel_rfl) .i64 (k : Int) (by omega) (by omega)
  rw [h]
  have he : Tryz.prog.elem 216 = 215 := by kernel_rfl
  rw [he]
  simp [sizeOf, sliced, Result.andThen, Addr.add]
structure WrAt (Wn : World) (B b : Nat) (w wr : World) (T : List UInt8) (g : Nat) (st : List Stp) (lc : List UInt8) (v : Value) : Prop where
  st_ : StAt Wn wr B v st
  bld : Bld B b lc wr
  txt : lc ++ remT st = T
  cnt : stM st ≤ g
  gb : g ≤ 300000
  bel : Below B w wr
theorem Bt.box {b : Nat} {w w' : World} {x y x' y' : Value} {PB T T' : Nat} (h : Bt b w w') (hp : w.heap[PB]? = some (.cells #[x, y] T (0, 0))) (hT : T ≠ 5) (hb : w.heap[b]? = some (.cells #[x', y'] T' (0, 0))) (hT' : T' ≠ T) : w'.heap[PB]? = some (.cells #[x, y] T (0, 0)) := by
  have hlt : PB < w.heap.size := by
    rcases Nat.lt_or_ge PB w.heap.size with h1 | h1
    · exact h1
    · rw [Array.getElem?_eq_none h1] at hp; exact absurd hp (by simp)
  rw [h.block PB hlt ?_ ?_]
  · exact hp
  · rintro rfl
    rw [hp] at hb
    injection hb with hb
    injection hb with _ hb _
    exact hT' hb.symm
  · intro cur fr e
    rw [hp] at e
    injection e with e
    injection e with _ e _
    exact hT e
set_option maxHeartbeats 8000000 in
set_option maxRecDepth 20000 in
theorem write_any (B b nb no : Nat) (Wn : World) (x : Nd) (l : List UInt8) (w : World)
    (hL : Bld B b l w) (hx : NdPt Wn nb no x) (hwf : WfN x) (hW : Below Wn.heap.size Wn w) (hWB : Wn.heap.size ≤ B) (hB : B ≤ w.heap.size) (ht : TabW Wn) (hm : 2 * cntN x ≤ 300000) (hll : l.length + (txtN x).length ≤ 800000) :
    Calls Tryz.prog 77 #[.pointer (some ⟨b, 0, none⟩), .pointer (some ⟨nb, no, none⟩)] w fun e w' => e = .returned (.tuple #[]) ∧ Bld B b (l ++ txtN x) w' ∧ Below B w w' := by
  obtain ⟨T, HT⟩ : ∃ T, Hid (l ++ txtN x = T) := ⟨_, rfl⟩
  have hTl : T.length ≤ 800000 := by rw [← HT.out, List.length_append]; exact hll
  rw [HT.out]
  have HS0 : Hid (WrAt Wn B b w (w.alloc (.cells #[.string ⟨#[]⟩, .pointer (some ⟨nb, no, none⟩)] 215)) T (2 * cntN x) [⟨[], some (nb, no, x)⟩] l (.slice (some ⟨w.heap.size, 0, none⟩) 1 1)) := by
    refine ⟨⟨?_, ?_⟩, hL.next (alloc_below _ _), ?_, by rw [stM_one]; exact Nat.le_refl _, hm, (Below.refl _ _).alloc hB _⟩
    · exact World.ownsRow_lit (base := B) (e := 215) (size := 2) w #[.string ⟨#[]⟩, .pointer (some ⟨nb, no, none⟩)] 1 hB (by unfold maxLen; omega) rfl
    · intro e he
      rw [List.mem_singleton.1 he]
      intro b' o' x' h
      have e := Option.some.inj h
      injection e with e1 e2
      injection e2 with e2 e3
      subst e1 e2 e3
      exact ⟨hx, hwf⟩
    · rw [← HT.out]
      show l ++ remT ([] ++ [⟨[], some (nb, no, x)⟩]) = _
      rw [remT_snoc]
      show l ++ (([] ++ txtN x) ++ []) = _
      simp
  have HW : Hid (Below Wn.heap.size Wn w) := hW
  have HTb : Hid (TabW Wn) := ht
  obtain ⟨G, HG⟩ : ∃ G, Hid (2 * cntN x = G) := ⟨_, rfl⟩
  rw [HG.out] at HS0
  clear hL hx hwf hW ht hm hll HG
  go_enter Tryz.func77, Tryz.ntmps77
  go_wp2
  go_loopg [4] G (fun gk v wr => ∃ (st : List Stp) (lc : List UInt8), Hid (WrAt Wn B b w wr T gk st lc v))
  case atStart => exact ⟨_, _, HS0⟩
  case round =>
    obtain ⟨st, lc, HI⟩ := hrel
    clear HS0
    by_cases hst : st = []
    · subst hst
      obtain ⟨vao, vcap, hv⟩ : ∃ vao vcap, u4 = .slice vao 0 vcap := by
        rcases HI.out.st_.own.2 with ⟨e, _⟩ | ⟨gg, cap, cur, e, _⟩
        · exact ⟨_, _, e⟩
        · exact ⟨_, _, e⟩
      subst hv
      have HFin : Hid (Bld B b T wr ∧ Below B w wr) := by
        have h1 := HI.out.txt
        have h2 : lc = T := by rw [← h1]; show lc = lc ++ []; simp
        rw [← h2]
        exact ⟨HI.out.bld, HI.out.bel⟩
      clear HI
      go_wp2
      go_end0
      exact ⟨rfl, HFin.out⟩
    · obtain ⟨r, e, rfl⟩ := snoc_of st hst
      obtain ⟨m, Hm⟩ : ∃ m, Hid (r.length = m) := ⟨_, rfl⟩
      have hown := HI.out.st_.own
      rw [List.length_append, List.length_singleton, Hm.out] at hown
      obtain ⟨g, vcap, hv⟩ : ∃ g vcap, u4 = .slice (some ⟨g, 0, none⟩) (m + 1) vcap := by
        rcases hown.2 with ⟨_, h0⟩ | ⟨gg, cap, cur, e, _⟩
        · omega
        · exact ⟨_, _, e⟩
      subst hv
      have hvc : m + 1 ≤ vcap := by
        rcases hown.2 with ⟨h0, _⟩ | ⟨gg, cap, cur, e, _, _, hle, _⟩
        · cases h0
        · injection e with _ _ e3; omega
      have hcell : ∀ q, q < 2 → wr.cell? ⟨g, m * 2 + q, none⟩ = (stpC e)[q]? := fun q hq => by
        rw [hown.cellAt (m * 2 + q) (by omega), stC_app, List.getElem?_append_right (by rw [stC_len, Hm.out]; omega), stC_len, Hm.out, show m * 2 + q - m * 2 = q by omega]
        unfold stC; simp
      have p0 := hcell 0 (by omega)
      have p1 := hcell 1 (by omega)
      rw [Nat.add_zero] at p0
      have hop : StAt Wn wr B (.slice (some ⟨g, 0, none⟩) m vcap) r := by
        refine ⟨?_, fun x hx => HI.out.st_.ok x (by simp [hx])⟩
        rw [Hm.out]
        rw [stC_app] at hown
        exact ownsRow_pop (by rw [stC_len, Hm.out]) hown
      have hek := HI.out.st_.ok e (by simp)
      have hcn := HI.out.cnt
      have hgb := HI.out.gb
      rw [stM_app, stM_one] at hcn
      have hml := stM_len r
      rw [Hm.out] at hml
      have htx := HI.out.txt
      rw [remT_snoc] at htx
      have hle : lc.length + (stpT e).length ≤ 800000 := by
        have := congrArg List.length htx
        rw [List.length_append, List.length_append] at this
        omega
      have HOp : Hid (StAt Wn wr B (.slice (some ⟨g, 0, none⟩) m vcap) r) := hop
      have HBl : Hid (Below B w wr) := HI.out.bel
      have HBd : Hid (Bld B b lc wr) := HI.out.bld
      have HTx : Hid (lc ++ (stpT e ++ remT r) = T) := htx
      have hBr : B ≤ wr.heap.size := Nat.le_trans hB HBl.out.size
      have hmb : m ≤ 300000 := by omega
      have hsl : ∀ w, (Instr.slice 216 (.slice (some ⟨g, 0, none⟩) (m + 1) vcap) none (some (.int .i64 (m : Int))) none).run Tryz.prog w = .ok (.slice (some ⟨g, 0, none⟩) m vcap) w := fun w => steps_to _ _ _ _ _ w rfl (by omega) hvc
      have hm0 : (0 : Int) ≤ (m : Int) := by omega
      have hm1 : (m : Int) < (m : Int) + 1 := by omega
      obtain ⟨sg, nd⟩ := e
      obtain ⟨S, HSg⟩ : ∃ S, Hid (S = baL sg) := ⟨_, rfl⟩
      have p0' : wr.cell? ⟨g, m * 2, none⟩ = some (.string S) := by rw [HSg.out]; exact p0
      have hsgl : lc.length + sg.length ≤ 1000000 := by
        have : sg.length ≤ (stpT ⟨sg, nd⟩).length := by unfold stpT; rw [List.length_append]; exact Nat.le_add_right _ _
        omega
      have HSl : Hid (lc.length + sg.length ≤ 1000000) := hsgl
      clear HI hown hop hst p0 hcell htx hsgl
      cases nd with
      | none =>
        have p1' : wr.cell? ⟨g, m * 2 + 1, none⟩ = some (.pointer none) := p1
        clear p1
        go_wp2_with fail
        refine (bd_str B b lc sg S HSg.out _ (HBd.out.next (alloc_below _ _)) HSl.out (by simp; omega)).mono ?_
        rintro e w2 ⟨⟨n2, rfl⟩, hL2, hb2, ht2⟩
        obtain ⟨bx, by_, hbh⟩ := (HBd.out.next (alloc_below wr (.cells #[.string S, .pointer none] 215))).heap
        have hpb : Two w2 wr.heap.size 215 (.string S) (.pointer none) := ht2.box (by show (wr.heap.push _)[wr.heap.size]? = _; rw [Array.getElem?_push_size]) (by decide) hbh (by decide)
        have c1 := hpb.c1
        have HN : Hid (WrAt Wn B b w w2 T (stM r) r (lc ++ sg) (.slice (some ⟨g, 0, none⟩) m vcap)) := by
          refine ⟨(StAt.bt ⟨HOp.out.own.alloc _, HOp.out.ok⟩ ht2 (HBd.out.next (alloc_below _ _))), hL2, ?_, Nat.le_refl _, by omega, (HBl.out.trans ((Below.refl _ _).alloc hBr _)).trans hb2⟩
          rw [← HTx.out]
          show _ = lc ++ ((sg ++ []) ++ remT r)
          simp
        have HLt : Hid (stM r < gk) := by
          have : stpM ⟨sg, none⟩ = 1 := rfl
          rw [Hid]; omega
        clear hL2 hb2 ht2 hbh hpb p0' p1'
        go_wp2
        go_roundg (stM r)
        case rel => exact ⟨_, _, HN⟩
        case measure => exact HLt.out
      | some p =>
        obtain ⟨pb, po, px⟩ := p
        have p1' : wr.cell? ⟨g, m * 2 + 1, none⟩ = some (.pointer (some ⟨pb, po, none⟩)) := p1
        obtain ⟨hpn, hpw⟩ := hek pb po px rfl
        clear p1 hek
        go_wp2_with fail
        refine (bd_str B b lc sg S HSg.out _ (HBd.out.next (alloc_below _ _)) HSl.out (by simp; omega)).mono ?_
        rintro e w2 ⟨⟨n2, rfl⟩, hL2, hb2, ht2⟩
        obtain ⟨bx, by_, hbh⟩ := (HBd.out.next (alloc_below wr (.cells #[.string S, .pointer (some ⟨pb, po, none⟩)] 215))).heap
        have hpb : Two w2 wr.heap.size 215 (.string S) (.pointer (some ⟨pb, po, none⟩)) := ht2.box (by show (wr.heap.push _)[wr.heap.size]? = _; rw [Array.getElem?_push_size]) (by decide) hbh (by decide)
        have c1 := hpb.c1
        have hB2 : Below B w w2 := (HBl.out.trans ((Below.refl _ _).alloc hBr _)).trans hb2
        have hS2 : StAt Wn w2 B (.slice (some ⟨g, 0, none⟩) m vcap) r := StAt.bt ⟨HOp.out.own.alloc _, HOp.out.ok⟩ ht2 (HBd.out.next (alloc_below _ _))
        have hq1 : stpM ⟨sg, some (pb, po, px)⟩ = 2 * cntN px := rfl
        have hq2 : (stpT ⟨sg, some (pb, po, px)⟩).length = sg.length + (txtN px).length := by show (sg ++ txtN px).length = _; rw [List.length_append]
        have HCl : Hid (Calls Tryz.prog 111 #[.pointer (some ⟨b, 0, none⟩), .pointer (some ⟨pb, po, none⟩), .slice (some ⟨g, 0, none⟩) m vcap] w2 fun e w' => BegR Wn B b r (lc ++ sg) (txtN px) (2 * cntN px) w2 w' e) :=
          begin_any B b pb po Wn _ r px (lc ++ sg) w2 hL2 hS2 hpn hpw (HW.out.trans (hB2.mono hWB)) hWB (Nat.le_trans hB hB2.size) HTb.out (by omega) (by rw [List.length_append]; omega)
        have HB2 : Hid (Below B w w2) := hB2
        clear hL2 hb2 ht2 hbh hpb p0' p1' hpn hpw hB2 hS2
        go_wp2_with fail
        refine HCl.out.mono ?_
        intro e w3 hres
        obtain ⟨v3, ks, l3, rfl, hSt3, hBd3, hTx3, hM3⟩ := hres.res
        have HN : Hid (WrAt Wn B b w w3 T (stM (r ++ ks)) (r ++ ks) l3 v3) := by
          refine ⟨hSt3, hBd3, ?_, Nat.le_refl _, by rw [stM_app]; omega, HB2.out.trans hres.bel⟩
          rw [hTx3, ← HTx.out]
          show _ = lc ++ ((sg ++ txtN px) ++ remT r)
          simp
        have HLt : Hid (stM (r ++ ks) < gk) := by rw [Hid, stM_app]; omega
        clear hres hSt3 hBd3 hTx3 hM3 HCl
        go_wp2
        go_roundg (stM (r ++ ks))
        case rel => exact ⟨_, _, HN⟩
        case measure => exact HLt.out
end Go.Proofs.YtnhbjhdkpbhioaaGreatDoor
namespace Go.Proofs.YtnhbjhdkpbhioaaGreatDoor
open Go.RowKit
theorem baL_mk (l : List UInt8) : (⟨l.toArray⟩ : ByteArray) = baL l := rfl
set_option maxHeartbeats 4000000 in
set_option maxRecDepth 20000 in
theorem text_any5 (x : Nd) (ao : Option Addr) (cap : Nat) (w : World) (hwf : WfN x) (ht : TabW w) (hm : 2 * cntN x ≤ 300000) (hl : (txtN x).length ≤ 800000) (hc : x.l.length ≤ cap) (hk : IsNds w anyB ao x.l) :
    Calls Tryz.prog 37 #[ndV x ao cap] w fun e w' => e = .returned (.string (baL (txtN x))) ∧ Below w.heap.size w w' := by
  obtain ⟨W, hW⟩ : ∃ W, w.alloc (.cells #[.int .i64 x.k, .int .i64 (x.a : Int), .int .i64 x.i, .string (baL x.s), .slice ao x.l.length cap] 43) = W := ⟨_, rfl⟩
  have HBW : Hid (Below w.heap.size w W) := by rw [← hW]; exact alloc_below _ _
  have hsW : W.heap.size = w.heap.size + 1 := by rw [← hW]; simp
  have HX : Hid (NdPt W w.heap.size 0 x) := by
    refine ⟨ao, cap, ?_⟩
    rw [← hW]
    exact ⟨box0 rfl, box0 rfl, box0 rfl, box0 rfl, box0 rfl, hc, hk.next (alloc_below _ _)⟩
  have HT : Hid (TabW W) := tab_next ht HBW.out
  have HF : Hid (WfN x) := hwf
  have HL0 : Hid (Bld W.heap.size W.heap.size [] (W.alloc (.cells #[.pointer none, .slice none 0 0] 170))) := Lib.fresh_isBuilder _ _ W
  obtain ⟨P, HP⟩ : ∃ P, Hid (w.heap.size + 1 = P) := ⟨_, rfl⟩
  rw [HP.out] at hsW
  have HWr : Hid (Calls Tryz.prog 77 #[.pointer (some ⟨w.heap.size + 1, 0, none⟩), .pointer (some ⟨w.heap.size, 0, none⟩)] ((w.alloc (.cells #[.int .i64 x.k, .int .i64 (x.a : Int), .int .i64 x.i, .string (baL x.s), .slice ao x.l.length cap] 43)).alloc (.cells #[.pointer none, .slice none 0 0] 170)) fun e w' => e = .returned (.tuple #[]) ∧ Bld P P (txtN x) w' ∧ Below P W w') := by
    rw [Hid, hW, HP.out]
    have hL0 := HL0.out
    rw [hsW] at hL0
    refine (write_any P P w.heap.size 0 W x [] _ hL0 HX.out HF.out (alloc_below _ _) (by omega) (by simp; omega) HT.out hm (by simpa using hl)).mono ?_
    rintro e w1 ⟨h1, h2, h3⟩
    exact ⟨h1, h2, ((Below.refl _ _).alloc (by omega) _).trans h3⟩
  have HSz : Hid (w.heap.size ≤ P ∧ P ≤ W.heap.size) := ⟨by have := HP.out; omega, by omega⟩
  unfold ndV
  clear hk hc hwf ht hW HL0 HX HF HT hm hl hsW
  go_enter Tryz.func37, Tryz.ntmps37
  go_wp2_with fail
  refine HWr.out.mono ?_
  rintro e w1 ⟨rfl, hl1, hb1⟩
  have HB1 : Hid (Below P W w1) := hb1
  have HL1 : Hid (Bld P P (txtN x) w1) := hl1
  clear hl1 hb1
  go_wp2_with fail
  rw [HP.out]
  refine (str_any P P (txtN x) _ HL1.out (Nat.le_trans HSz.out.2 HB1.out.size)).mono ?_
  rintro e w2 ⟨rfl, hb2⟩
  have HB2 : Hid (Below w.heap.size w w2) := HBW.out.trans ((HB1.out.trans hb2).mono HSz.out.1)
  clear hb2
  go_wp2
  go_ret
  exact ⟨rfl, HB2.out⟩
def headN (x : Nd) : List UInt8 := if x.k = 0 then (match x.l with | y :: _ => if y.k = 2 then y.s else [] | [] => []) else []
set_option maxHeartbeats 4000000 in
set_option maxRecDepth 20000 in
theorem rhead_any (x : Nd) (ao : Option Addr) (cap : Nat) (w : World) (hb : x.l.length ≤ 300000) (hc : x.l.length ≤ cap) (hk : IsNds w anyB ao x.l) :
    Calls Tryz.prog 47 #[ndV x ao cap] w fun e w' => e = .returned (.string (baL (headN x))) ∧ Below w.heap.size w w' := by
  unfold ndV
  obtain ⟨k, a, i, s, l⟩ := x
  simp only at hb hc hk ⊢
  by_cases hk0 : k = 0
  · subst hk0
    cases l with
    | nil =>
      go_enter Tryz.func47, Tryz.ntmps47
      go_wp2
      go_ret
      exact ⟨rfl, alloc_below _ _⟩
    | cons y r =>
      obtain ⟨b, o, ao', cap', rfl, hA⟩ := hk.at (j := 0) rfl
      rw [Nat.zero_mul, Nat.add_zero] at hA
      have c0 := alloc_cell (w := w) (o := .cells #[.int .i64 0, .int .i64 (a : Int), .int .i64 i, .string (baL s), .slice (some ⟨b, o, none⟩) (y :: r).length cap] 46) hA.c0
      have c3 := alloc_cell (w := w) (o := .cells #[.int .i64 0, .int .i64 (a : Int), .int .i64 i, .string (baL s), .slice (some ⟨b, o, none⟩) (y :: r).length cap] 46) hA.c3
      obtain ⟨yk, ya, yi, ys, yl⟩ := y
      simp only at c0 c3
      obtain ⟨n, hn⟩ : ∃ n : Nat, (Nd.mk yk ya yi ys yl :: r).length = n + 1 := ⟨_, rfl⟩
      rw [hn] at c0 c3 hb hc ⊢
      have hd : (0 : Int) < (n : Int) + 1 := by omega
      by_cases hy : yk = 2
      · subst hy
        have HR : Hid (headN ⟨0, a, i, s, ⟨2, ya, yi, ys, yl⟩ :: r⟩ = ys) := rfl
        rw [HR.out]
        clear hk hA hn
        go_enter Tryz.func47, Tryz.ntmps47
        go_wp2
        go_ret
        exact ⟨rfl, alloc_below _ _⟩
      · have hd2 : (yk == 2) = false := by simpa using hy
        have HR : Hid (headN ⟨0, a, i, s, ⟨yk, ya, yi, ys, yl⟩ :: r⟩ = []) := by rw [Hid]; unfold headN; simp [hy]
        rw [HR.out]
        clear hk hA hn hy
        go_enter Tryz.func47, Tryz.ntmps47
        go_wp2
        go_ret
        exact ⟨rfl, alloc_below _ _⟩
  · have hd : (k == 0) = false := by simpa using hk0
    have HR : Hid (headN ⟨k, a, i, s, l⟩ = []) := by rw [Hid]; unfold headN; simp [hk0]
    rw [HR.out]
    clear hk
    go_enter Tryz.func47, Tryz.ntmps47
    go_wp2
    go_ret
    exact ⟨rfl, alloc_below _ _⟩
def valN (x : Nd) : Int × Int × List UInt8 × Bool := if x.k = 1 ∨ x.k = 2 ∨ x.k = 3 then (x.k, x.i, x.s, true) else (0, 0, [], false)
set_option maxHeartbeats 4000000 in
set_option maxRecDepth 20000 in
theorem value_any5 (x : Nd) (ao : Option Addr) (cap : Nat) (w : World) :
    Calls Tryz.prog 136 #[ndV x ao cap] w fun e w' => e = .returned (.tuple #[.agg #[.int .i64 ((valN x).1), .int .i64 ((valN x).2.1), .string (baL (valN x).2.2.1)], .bool (valN x).2.2.2]) ∧ Below w.heap.size w w' := by
  unfold ndV
  obtain ⟨k, a, i, s, l⟩ := x
  simp only
  obtain ⟨q, Hq⟩ : ∃ q, Hid (l.length = q) := ⟨_, rfl⟩
  rw [Hq.out]
  by_cases h1 : k = 1
  · subst h1
    have HR : Hid (valN ⟨1, a, i, s, l⟩ = (1, i, s, true)) := rfl
    rw [HR.out]
    clear HR
    go_enter Tryz.func136, Tryz.ntmps136
    go_wp2
    exact bodyPost_ret (v := .tuple #[.agg #[.int .i64 (1), .int .i64 (i), .string (baL s)], .bool true]) (by simp [results, Tryz.results136, go_sem]) rfl ⟨rfl, next_trans (alloc_below _ _) (alloc_below _ _)⟩
  have d1 : (k == 1) = false := by simpa using h1
  by_cases h2 : k = 2
  · subst h2
    have HR : Hid (valN ⟨2, a, i, s, l⟩ = (2, i, s, true)) := rfl
    rw [HR.out]
    clear HR
    go_enter Tryz.func136, Tryz.ntmps136
    go_wp2
    exact bodyPost_ret (v := .tuple #[.agg #[.int .i64 (2), .int .i64 (i), .string (baL s)], .bool true]) (by simp [results, Tryz.results136, go_sem]) rfl ⟨rfl, next_trans (alloc_below _ _) (alloc_below _ _)⟩
  have d2 : (k == 2) = false := by simpa using h2
  by_cases h3 : k = 3
  · subst h3
    have HR : Hid (valN ⟨3, a, i, s, l⟩ = (3, i, s, true)) := rfl
    rw [HR.out]
    clear HR
    go_enter Tryz.func136, Tryz.ntmps136
    go_wp2
    exact bodyPost_ret (v := .tuple #[.agg #[.int .i64 (3), .int .i64 (i), .string (baL s)], .bool true]) (by simp [results, Tryz.results136, go_sem]) rfl ⟨rfl, next_trans (alloc_below _ _) (alloc_below _ _)⟩
  have d3 : (k == 3) = false := by simpa using h3
  have HR : Hid (valN ⟨k, a, i, s, l⟩ = (0, 0, [], false)) := by rw [Hid]; unfold valN; simp [h1, h2, h3]
  rw [HR.out]
  clear HR h1 h2 h3
  go_enter Tryz.func136, Tryz.ntmps136
  go_wp2
  exact bodyPost_ret (v := .tuple #[.agg #[.int .i64 (0), .int .i64 (0), .string (⟨#[]⟩)], .bool false]) (by simp [results, Tryz.results136, go_sem]) rfl ⟨rfl, next_trans (alloc_below _ _) (alloc_below _ _)⟩
set_option maxHeartbeats 4000000 in
set_option maxRecDepth 20000 in
theorem rvalue_any5 (x : Nd) (ao : Option Addr) (cap : Nat) (w : World) :
    Calls Tryz.prog 87 #[ndV x ao cap] w fun e w' => e = .returned (.tuple #[.agg #[.int .i64 ((valN x).1), .int .i64 ((valN x).2.1), .string (baL (valN x).2.2.1)], .bool (valN x).2.2.2]) ∧ Below w.heap.size w w' := by
  unfold ndV
  obtain ⟨k, a, i, s, l⟩ := x
  simp only
  obtain ⟨q, Hq⟩ : ∃ q, Hid (l.length = q) := ⟨_, rfl⟩
  rw [Hq.out]
  by_cases h1 : k = 1
  · subst h1
    have HR : Hid (valN ⟨1, a, i, s, l⟩ = (1, i, s, true)) := rfl
    rw [HR.out]
    clear HR
    go_enter Tryz.func87, Tryz.ntmps87
    go_wp2
    exact bodyPost_ret (v := .tuple #[.agg #[.int .i64 (1), .int .i64 (i), .string (baL s)], .bool true]) (by simp [results, Tryz.results87, go_sem]) rfl ⟨rfl, next_trans (alloc_below _ _) (alloc_below _ _)⟩
  have d1 : (k == 1) = false := by simpa using h1
  by_cases h2 : k = 2
  · subst h2
    have HR : Hid (valN ⟨2, a, i, s, l⟩ = (2, i, s, true)) := rfl
    rw [HR.out]
    clear HR
    go_enter Tryz.func87, Tryz.ntmps87
    go_wp2
    exact bodyPost_ret (v := .tuple #[.agg #[.int .i64 (2), .int .i64 (i), .string (baL s)], .bool true]) (by simp [results, Tryz.results87, go_sem]) rfl ⟨rfl, next_trans (alloc_below _ _) (alloc_below _ _)⟩
  have d2 : (k == 2) = false := by simpa using h2
  by_cases h3 : k = 3
  · subst h3
    have HR : Hid (valN ⟨3, a, i, s, l⟩ = (3, i, s, true)) := rfl
    rw [HR.out]
    clear HR
    go_enter Tryz.func87, Tryz.ntmps87
    go_wp2
    exact bodyPost_ret (v := .tuple #[.agg #[.int .i64 (3), .int .i64 (i), .string (baL s)], .bool true]) (by simp [results, Tryz.results87, go_sem]) rfl ⟨rfl, next_trans (alloc_below _ _) (alloc_below _ _)⟩
  have d3 : (k == 3) = false := by simpa using h3
  have HR : Hid (valN ⟨k, a, i, s, l⟩ = (0, 0, [], false)) := by rw [Hid]; unfold valN; simp [h1, h2, h3]
  rw [HR.out]
  clear HR h1 h2 h3
  go_enter Tryz.func87, Tryz.ntmps87
  go_wp2
  exact bodyPost_ret (v := .tuple #[.agg #[.int .i64 (0), .int .i64 (0), .string (⟨#[]⟩)], .bool false]) (by simp [results, Tryz.results87, go_sem]) rfl ⟨rfl, next_trans (alloc_below _ _) (alloc_below _ _)⟩
end Go.Proofs.YtnhbjhdkpbhioaaGreatDoor
