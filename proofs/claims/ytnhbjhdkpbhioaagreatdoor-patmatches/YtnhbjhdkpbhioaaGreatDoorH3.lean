import Derived.Test.YtnhbjhdkpbhioaaGreatDoorH1
import Derived.RangeFuncNested
import Derived.RangeFuncBound
import Derived.RangeFuncCalls
import Derived.RangeFuncLeaves
import Derived.Shelf.Abstract
import Derived.WalkKit
import Derived.OwnWalkIn
import Derived.TacticsInMore
import Derived.LoopNIn
import Derived.LoopIn
namespace Go.Proofs.YtnhbjhdkpbhioaaGreatDoor
open Go.RowKit Go.Shelf
attribute [local go_sem] Oper.semAt_some
def uptoF {α : Type} (f : Nat → α) (k : Nat) : List α := (List.range k).map f
theorem uptoF_succ {α : Type} (f : Nat → α) (k : Nat) : uptoF f (k + 1) = uptoF f k ++ [f k] := by simp [uptoF, List.range_succ]
theorem uptoF_length {α : Type} (f : Nat → α) (k : Nat) : (uptoF f k).length = k := by simp [uptoF]
def zSl : Sl := ⟨noS, 0, 0, noS⟩
def dnF (E : List Sl) (n : Nat) (j : Nat) : Nat × Sl := (n - 1 - j, (E[n - 1 - j]?).getD zSl)
def encB (x : Nat × Sl) : Array Value := #[.int .i64 (x.1 : Int), .agg #[.string x.2.n, .int .i64 x.2.k, .int .i64 x.2.i, .string x.2.s]]
set_option maxRecDepth 100000 in
set_option maxHeartbeats 4000000 in
theorem back1_in (F : Fence) (n : Nat) (hf : F.fn 139) (hro : F.round = none) (hn : 1 ≤ n) (l Bs : Nat) (ao : Option Addr) (N cap : Nat) (E : List Sl) (w0 : World) (hN : E.length = N) (hNb : N ≤ 100000) (hI : IsSls w0 ao E) (J Jx : List (Nat × Sl) → World → Prop)
    (hY : ∀ pre x W, J pre W → pre.length < N → YieldAt F (n - 1) Tryz.prog l (encB x) W fun e W' =>
      (e = .returned (.bool true) ∧ J (pre ++ [x]) W' ∧ Below w0.heap.size W W') ∨ (e = .returned (.bool false) ∧ Jx (pre ++ [x]) W'))
    (W : World) (hW : Below w0.heap.size w0 W) (hBs : w0.cell? ⟨Bs, 0, none⟩ = some (.slice ao N cap)) (h0 : J [] W) :
    CallsIn F n Tryz.prog 139 #[.func (.yield l) #[] #[], .pointer (some ⟨Bs, 0, none⟩)] W fun e W' => (∃ v, e = .returned v) ∧
      ((∃ ys, ys = uptoF (dnF E N) N ∧ J ys W') ∨ (∃ pre, (∃ k, k ≤ N ∧ pre = uptoF (dnF E N) k) ∧ Jx pre W')) := by
  have hm1 : IntKind.i64.wrap ((N : Int) - 1) = (N : Int) - 1 := by rw [IntKind.wrap_i64] <;> omega
  have hB0 : W.cell? ⟨Bs, 0, none⟩ = some (.slice ao N cap) := keep_cell hW hBs
  refine callsIn_of_wp Tryz.func139 rfl hf ?_ hro
  simp only [Tryz.ntmps139, List.size_toArray, List.length_cons, List.length_nil, Nat.reduceAdd, Nat.reduceSub, Array.replicate_succ, Array.replicate_zero, List.push_toArray, List.append_toArray, List.nil_append, List.cons_append]
  gi_wp2
  gi_loopw [3] (fun i wr => ∃ r : Nat, r ≤ N ∧ i = .int .i64 ((r : Int) - 1) ∧ J (uptoF (dnF E N) (N - r)) wr ∧ Below w0.heap.size w0 wr)
    (fun i _ => (intOf i + 1).toNat)
  case atStart => exact ⟨N, Nat.le_refl _, rfl, by rw [Nat.sub_self]; exact h0, hW⟩
  case round =>
    obtain ⟨r, hr, hi, hJs, hnx⟩ := hrel
    cases r with
    | zero =>
      have hi' : u3 = .int .i64 (-1) := hi
      subst hi'
      clear hi
      gi_wp2
      go_end0
      exact ⟨⟨_, rfl⟩, .inl ⟨_, rfl, hJs⟩⟩
    | succ j =>
      have hi' : u3 = .int .i64 (j : Int) := by rw [hi]; congr 1; omega
      subst hi'
      have hji : (j : Int) < (N : Int) := by omega
      have hj0 : (0 : Int) ≤ (j : Int) := by omega
      obtain ⟨s, hs⟩ : ∃ s, E[j]? = some s := ⟨_, List.getElem?_eq_getElem (by rw [hN]; omega)⟩
      have hdn : dnF E N (N - (j + 1)) = (j, s) := by
        unfold dnF
        rw [show N - 1 - (N - (j + 1)) = j by omega, hs]; rfl
      have hup : uptoF (dnF E N) (N - j) = uptoF (dnF E N) (N - (j + 1)) ++ [(j, s)] := by
        rw [show N - j = N - (j + 1) + 1 by omega, uptoF_succ, hdn]
      obtain ⟨b, o, rfl, c0, c1, c2, c3⟩ := (hI.next hnx) j s hs
      have hbx : wr.cell? ⟨Bs, 0, none⟩ = some (.slice (some ⟨b, o, none⟩) N cap) := keep_cell hnx hBs
      obtain ⟨sn, sk, si, ss⟩ := s
      simp only at c0 c1 c2 c3
      obtain ⟨fn, tmps, assign, body, hy, hR⟩ := hY _ (j, ⟨sn, sk, si, ss⟩) wr hJs (by rw [uptoF_length]; omega)
      unfold encB at hy
      dsimp only at hy
      clear hi hdn
      gi_wp2
      refine hR.mono ?_
      rintro e W3 (⟨rfl, hJ3, hk3⟩ | ⟨rfl, hJx3⟩)
      · gi_wp2
        go_roundw
        case rel => exact ⟨j, by omega, by go_num, by rw [hup]; exact hJ3, hnx.trans hk3⟩
        case measure => simp [intOf]
      · gi_wp2
        refine bodyPost_ret (results_none rfl _ _ _) rfl ?_
        exact ⟨⟨_, rfl⟩, .inr ⟨_, ⟨N - j, by omega, hup.symm⟩, hJx3⟩⟩
set_option maxHeartbeats 1000000 in
theorem backward_in (F : Fence) (n : Nat) (hf : F.fn 123) (hro : F.round = none) (a : Option Addr) (len cap : Nat) (w : World) :
    CallsIn F n Tryz.prog 123 #[.slice a len cap] w fun e w' => e = .returned (.func (.func 139) #[] #[.pointer (some ⟨w.heap.size, 0, none⟩)]) ∧ w' = w.alloc (.cells #[.slice a len cap] 67) := by
  refine callsIn_of_wp Tryz.func123 rfl hf ?_ hro
  simp only [Tryz.ntmps123, List.size_toArray, List.length_cons, List.length_nil, Nat.reduceAdd, Nat.reduceSub, Array.replicate_succ, Array.replicate_zero, List.push_toArray, List.append_toArray, List.nil_append, List.cons_append]
  gi_wp2
  go_ret
  exact ⟨rfl, rfl⟩
theorem back_stops (F : Fence) (n : Nat) (hf : F.fn 139) (hro : F.round = none) (hn : 1 ≤ n) (Bs : Nat) (ao : Option Addr) (N cap : Nat) (E : List Sl) (w0 : World) (hN : E.length = N) (hNb : N ≤ 100000) (hI : IsSls w0 ao E) (hBs : w0.cell? ⟨Bs, 0, none⟩ = some (.slice ao N cap)) :
    SeqStopsK F n Tryz.prog 139 #[.pointer (some ⟨Bs, 0, none⟩)] encB (Below w0.heap.size) (fun ys => ys = uptoF (dnF E N) N) (fun pre => ∃ k, k ≤ N ∧ pre = uptoF (dnF E N) k) N w0 := fun l J Jx W hW _ _ hY h0 =>
  back1_in F n hf hro hn l Bs ao N cap E w0 hN hNb hI J Jx hY W hW hBs h0
theorem bx_own {β : Type} (b : Nat) (c : Array Value) : Own (fun (_ : β) W => Bx W b c) := fun _ X Y row hs hg hrow => by
  obtain ⟨T, h⟩ := hs
  refine ⟨T, ?_⟩
  have hne : row ≠ some b := fun e => by
    obtain ⟨o, ho, hc⟩ := hrow b e
    rw [h] at ho; cases ho; cases hc
  rw [hg.block b (Bx.lt ⟨T, h⟩) (fun e => hne e.symm)]; exact h
theorem lastOf_split {f : Nat → Nat × Sl} {k : Nat} {ini : List (Nat × Sl)} {last : Nat × Sl} (h : uptoF f k = ini ++ [last]) : ∃ k', k = k' + 1 ∧ ini = uptoF f k' ∧ last = f k' := by
  cases k with
  | zero => simp [uptoF] at h
  | succ k' =>
    rw [uptoF_succ] at h
    obtain ⟨h1, h2⟩ := List.append_inj' h rfl
    exact ⟨k', rfl, h1.symm, (by simpa using h2 : f k' = last).symm⟩
theorem mem_upto {α : Type} {f : Nat → α} {k j : Nat} (h : j < k) : f j ∈ uptoF f k := by
  unfold uptoF
  rw [List.mem_map]
  exact ⟨j, List.mem_range.2 h, rfl⟩
theorem dn_at {E : List Sl} {N j : Nat} {s : Sl} (hN : E.length = N) (h : E[j]? = some s) : j < N ∧ dnF E N (N - 1 - j) = (j, s) := by
  have hj : j < N := by rw [← hN]; exact (List.getElem?_eq_some_iff.1 h).1
  refine ⟨hj, ?_⟩
  unfold dnF
  rw [show N - 1 - (N - 1 - j) = j by omega, h]; rfl
theorem getB_none {E : List Sl} {N : Nat} {m : ByteArray} (hN : E.length = N) (h : ∀ p ∈ uptoF (dnF E N) N, p.2.n ≠ m) : gtB E m = none :=
  gtB_miss E m fun j s hs => by
    obtain ⟨hj, hd⟩ := dn_at hN hs
    have := h _ (mem_upto (f := dnF E N) (j := N - 1 - j) (k := N) (by omega))
    rw [hd] at this
    exact this
theorem getB_some {E : List Sl} {N k : Nat} {m : ByteArray} (hN : E.length = N) (hk : k + 1 ≤ N) (h : ∀ p ∈ uptoF (dnF E N) k, p.2.n ≠ m) (h2 : (dnF E N k).2.n = m) : ∃ s, E[(dnF E N k).1]? = some s ∧ gtB E m = some s ∧ (dnF E N k).1 < N := by
  have hj : (dnF E N k).1 = N - 1 - k := rfl
  obtain ⟨s, hs⟩ : ∃ s, E[N - 1 - k]? = some s := ⟨_, List.getElem?_eq_getElem (by rw [hN]; omega)⟩
  have hd : dnF E N k = (N - 1 - k, s) := by unfold dnF; rw [hs]; rfl
  rw [hd] at h2 ⊢
  refine ⟨s, hs, gtB_hit E (N - 1 - k) s m hs h2 fun j x hlt hx => ?_, by show N - 1 - k < N; omega⟩
  obtain ⟨hj2, hdj⟩ := dn_at hN hx
  have := h _ (mem_upto (f := dnF E N) (j := N - 1 - j) (k := k) (by omega))
  rw [hdj] at this
  exact this
set_option maxRecDepth 100000 in
set_option maxHeartbeats 4000000 in
theorem lastof_in (F : Fence) (n : Nat) (h1 : F.fn 101) (h2 : F.fn 123) (h3 : F.fn 139) (hro : F.round = none) (hn : 3 ≤ n) (ao : Option Addr) (N cap : Nat) (m : ByteArray) (E : List Sl) (w : World) (hN : E.length = N) (hNb : N ≤ 100000) (hI : IsSls w ao E) :
    CallsIn F n Tryz.prog 101 #[.slice ao N cap, .string m] w fun e W' => ((e = .returned (.int .i64 (-1)) ∧ gtB E m = none) ∨ ∃ (j : Nat) (s : Sl), e = .returned (.int .i64 (j : Int)) ∧ E[j]? = some s ∧ gtB E m = some s) ∧ Below w.heap.size w W' := by
  have hn1 : 1 ≤ n := by omega
  refine callsIn_of_wp_marks Tryz.func101 rfl h1 ?_ hro
  simp only [Tryz.ntmps101, List.size_toArray, List.length_cons, List.length_nil, Nat.reduceAdd, Nat.reduceSub, Array.replicate_succ, Array.replicate_zero, List.push_toArray, List.append_toArray, List.nil_append, List.cons_append]
  gi_wp2_with (gi_at_call 123; refine (backward_in F (n - 1) h2 hro _ _ _ _).mono ?_; rintro e w' ⟨rfl, rfl⟩)
  have bM := ((Bx.made w 9 #[.string m]).alloc (.cells #[.int .i64 0] 3)).alloc (.cells #[.slice ao N cap] 67)
  have bR : Bx ((w.alloc (.cells #[.string m] 9)).alloc (.cells #[.int .i64 0] 3)) (w.heap.size + 1) #[.int .i64 0] := Bx.made' rfl (by simp)
  have bR := bR.alloc (.cells #[.slice ao N cap] 67)
  have bS : Bx (((w.alloc (.cells #[.string m] 9)).alloc (.cells #[.int .i64 0] 3)).alloc (.cells #[.slice ao N cap] 67)) (w.heap.size + 1 + 1) #[.slice ao N cap] := Bx.made' rfl (by simp)
  have hB0 : Below w.heap.size w (((w.alloc (.cells #[.string m] 9)).alloc (.cells #[.int .i64 0] 3)).alloc (.cells #[.slice ao N cap] 67)) := (((Below.refl _ w).alloc (Nat.le_refl _) _).alloc (by simp) _).alloc (by simp; omega) _
  have hsz : (((w.alloc (.cells #[.string m] 9)).alloc (.cells #[.int .i64 0] 3)).alloc (.cells #[.slice ao N cap] 67)).heap.size = w.heap.size + 3 := by simp
  obtain ⟨W0, hW0⟩ : ∃ W0, ((w.alloc (.cells #[.string m] 9)).alloc (.cells #[.int .i64 0] 3)).alloc (.cells #[.slice ao N cap] 67) = W0 := ⟨_, rfl⟩
  rw [hW0] at bM bR bS hB0 hsz ⊢
  clear hW0
  refine wpIn_rangeFunc_ownH hro hn1 (gf := 139) (lb := #[.pointer (some ⟨w.heap.size + 1 + 1, 0, none⟩)]) rfl h3 (enters_of Tryz.func139 (by kernel_rfl) rfl)
    (back_stops F (n - 1) h3 hro (by omega) (w.heap.size + 1 + 1) ao N cap E W0 hN hNb (hI.next hB0) (bS.cell 0)) belowK_t (belowK_b (Nat.le_refl _)) (Below.refl _ _) (fun _ => rfl)
    (fun pre W => ((∀ p ∈ pre, p.2.n ≠ m) ∧ Bx W w.heap.size #[.string m] ∧ Bx W (w.heap.size + 1) #[.int .i64 0]) ∧ Below W0.heap.size W0 W)
    (fun c pre W => (c = .ret ∧ ∃ ini last, pre = ini ++ [last] ∧ (∀ p ∈ ini, p.2.n ≠ m) ∧ last.2.n = m ∧ Bx W (w.heap.size + 1) #[.int .i64 (last.1 : Int)]) ∧ Below w.heap.size w W)
    (OwnFrom.and (Own.from (fun s A B row hs hg hr => ⟨hs.1, bx_own _ _ () A B row hs.2.1 hg hr, bx_own _ _ () A B row hs.2.2 hg hr⟩) _) (ownFrom_below (Nat.le_refl _) (Nat.le_refl _)))
    (fun c => OwnFrom.and (Own.from (fun s A B row hs hg hr => by obtain ⟨hc, ini, last, e1, e2, e3, e4⟩ := hs; exact ⟨hc, ini, last, e1, e2, e3, bx_own _ _ () A B row e4 hg hr⟩) _) (ownFrom_below (Nat.le_refl _) (by omega)))
    ⟨⟨fun p hp => absurd hp (by simp), bM, bR⟩, Below.refl _ _⟩
    (fun x a' W => ∃ Bq, w.heap.size + 1 < Bq ∧ Bx W Bq #[.string x.2.n, .int .i64 x.2.k, .int .i64 x.2.i, .string x.2.s] ∧ a' = { tmps := #[.slice ao N cap, .string m, undef, .pointer (some ⟨w.heap.size, 0, none⟩), .pointer (some ⟨w.heap.size + 1, 0, none⟩), .int .i64 (x.1 : Int), .pointer (some ⟨Bq, 0, none⟩), .slice ao N cap, .func (.func 139) #[] #[.pointer (some ⟨w.heap.size + 1 + 1, 0, none⟩)], .int .i64 (x.1 : Int), .agg #[.string x.2.n, .int .i64 x.2.k, .int .i64 x.2.i, .string x.2.s], undef, undef, undef, undef, undef], defers := [] })
    (fun x a' _ X Y row hs hg hr => by obtain ⟨Bq, q1, q2, q3⟩ := hs; exact ⟨Bq, q1, bx_own Bq _ () X Y row q2 hg (fun r e => (hr r e).2), q3⟩)
    ?assign ?body ?done ?stop
  case assign =>
    rintro l pre x W K ⟨⟨hp, b1, b2⟩, hB1⟩ hK
    unfold encB
    gi_wp2
    exact hK _ _ ((KeepsOthers.alloc _ _).from _) ((Below.refl _ W).alloc hB1.size _) ⟨⟨hp, b1.alloc _, b2.alloc _⟩, hB1.alloc hB1.size _⟩ ⟨W.heap.size, by have := hB1.size; omega, Bx.made _ _ _, rfl⟩
  case body =>
    rintro l pre x a' W hl ⟨r, hr⟩ ⟨⟨hp, b1, b2⟩, hB1⟩ ⟨Bq, hBq, bX, rfl⟩ hlt
    have c0 : W.cell? ⟨Bq, 0, none⟩ = some (.string x.2.n) := bX.cell 0
    have m0 : W.cell? ⟨w.heap.size, 0, none⟩ = some (.string m) := b1.cell 0
    have r0 : W.cell? ⟨w.heap.size + 1, 0, none⟩ = some (.int .i64 0) := b2.cell 0
    have rf := b2.froz
    have hBw : Below w.heap.size w W := hB0.trans (hB1.mono hB0.size)
    by_cases he : x.2.n = m
    · have hd : (x.2.n.toList == m.toList) = true := by rw [beq_ba]; exact decide_eq_true he
      have HI : Hid ((∀ p ∈ pre, p.2.n ≠ m) ∧ x.2.n = m) := ⟨hp, he⟩
      clear hp he
      gi_wp2
      exact ⟨(KeepsOthers.setCell _ _ _).from _, ⟨rfl, pre, x, rfl, HI.out.1, HI.out.2, b2.set 0 _⟩, hBw.setCell (p := ⟨w.heap.size + 1, 0, none⟩) (Nat.le_succ _) _⟩
    · have hd : (x.2.n.toList == m.toList) = false := by rw [beq_ba]; exact decide_eq_false he
      have HI : Hid (∀ p ∈ pre ++ [x], p.2.n ≠ m) := fun p hp' => (List.mem_append.1 hp').elim (hp p) (fun e => by simp at e; subst e; exact he)
      clear hp he
      gi_wp2
      exact ⟨KeepsFrom.refl _ _, Below.refl _ _, ⟨HI.out, b1, b2⟩, hB1⟩
  case done =>
    rintro D ys W hD rfl ⟨⟨hp, b1, b2⟩, hB1⟩ hK
    have r0 : W.cell? ⟨w.heap.size + 1, 0, none⟩ = some (.int .i64 0) := b2.cell 0
    have rf := b2.froz
    have hBw : Below w.heap.size w W := hB0.trans (hB1.mono hB0.size)
    have HG : Hid (gtB E m = none) := getB_none hN hp
    clear hp
    gi_wp2
    have hK' := (KeepsOthers.setCell W ⟨w.heap.size + 1, 0, none⟩ (.int .i64 (-1))).same D _ hK rfl
    refine ⟨by simp, .inl ⟨_, _, rfl, run_takeDeferred hK', ?_⟩⟩
    have hc5 := cell_kept ((b2.set 0 (.int .i64 (-1))).cell 0) (grownBy_putObj' _ D (.deferred none)) (fun r e => by cases e; exact ⟨_, hK', rfl⟩)
    refine ⟨.int .i64 (-1), ?_, .inl ⟨rfl, HG.out⟩, (hBw.setCell (p := ⟨w.heap.size + 1, 0, none⟩) (Nat.le_succ _) _).trans (belowK_b (w := w) (Nat.le_refl _) _ D _ _ (by omega) hK' rfl rfl)⟩
    simp [results, Tryz.f101, go_sem, hc5]
  case stop =>
    rintro D c pre W hD ⟨k, hk, rfl⟩ ⟨⟨rfl, ini, last, e1, e2, e3, b2⟩, hBw⟩ hK
    obtain ⟨k', rfl, rfl, rfl⟩ := lastOf_split e1
    have hc5 := cell_kept (b2.cell 0) (grownBy_putObj' _ D (.deferred none)) (fun r e => by cases e; exact ⟨_, hK, rfl⟩)
    obtain ⟨s, hs, hg, hj⟩ := getB_some hN hk e2 e3
    clear e1 e2 e3
    gi_wp2
    refine ⟨by simp, .inl ⟨_, _, rfl, run_takeDeferred hK, ?_⟩⟩
    refine ⟨.int .i64 ((dnF E N k').1 : Int), ?_, .inr ⟨(dnF E N k').1, s, rfl, hs, hg⟩, hBw.trans (belowK_b (w := w) (Nat.le_refl _) W D _ _ (by omega) hK rfl rfl)⟩
    simp [results, Tryz.f101, go_sem, hc5]
theorem lastof_any (ao : Option Addr) (N cap : Nat) (m : ByteArray) (E : List Sl) (w : World) (hN : E.length = N) (hNb : N ≤ 100000) (hI : IsSls w ao E) :
    Calls Tryz.prog 101 #[.slice ao N cap, .string m] w fun e W' => ((e = .returned (.int .i64 (-1)) ∧ gtB E m = none) ∨ ∃ (j : Nat) (s : Sl), e = .returned (.int .i64 (j : Int)) ∧ E[j]? = some s ∧ gtB E m = some s) ∧ Below w.heap.size w W' :=
  callsIn_wide.1 (lastof_in Fence.wide 3 trivial trivial trivial rfl (Nat.le_refl _) ao N cap m E w hN hNb hI)
end Go.Proofs.YtnhbjhdkpbhioaaGreatDoor
namespace Go.Proofs.YtnhbjhdkpbhioaaGreatDoor
open Go.RowKit
def gtV (E : List Sl) (m : ByteArray) : Sl × Bool := match gtB E m with
  | some s => (s, true)
  | none => (zSl, false)
theorem gtV_yes {E : List Sl} {m : ByteArray} {s : Sl} (h : gtB E m = some s) : gtV E m = (s, true) := by unfold gtV; rw [h]
theorem gtV_no {E : List Sl} {m : ByteArray} (h : gtB E m = none) : gtV E m = (zSl, false) := by unfold gtV; rw [h]
theorem ret_gv {R : Sl × Bool} {n : ByteArray} {k i : Int} {s : ByteArray} {b : Bool} (h : R = (⟨n, k, i, s⟩, b)) : Ending.returned (.tuple #[.agg #[.int .i64 (k), .int .i64 (i), .string (s)], .bool b]) = .returned (.tuple #[.agg #[.int .i64 (R.1.k), .int .i64 (R.1.i), .string (R.1.s)], .bool R.2]) := by rw [h]
theorem bel3 {w W : World} {B b : Nat} (h : Below B w W) (hb : B ≤ b) (v0 v1 v2 : Value) : Below B w (((W.setCell ⟨b, 0, none⟩ v0).setCell ⟨b, 1, none⟩ v1).setCell ⟨b, 2, none⟩ v2) := set_bel (set_bel (set_bel h hb) hb) hb
set_option maxHeartbeats 4000000 in
set_option maxRecDepth 8000 in
theorem get_any (ao : Option Addr) (N cap : Nat) (E : List Sl) (m : ByteArray) (w : World) (hN : E.length = N) (hNb : N ≤ 100000) (hI : IsSls w ao E) :
    Calls Tryz.prog 70 #[.slice ao N cap, .string m] w fun e w' => e = .returned (.tuple #[.agg #[.int .i64 ((gtV E m).1.k), .int .i64 ((gtV E m).1.i), .string ((gtV E m).1.s)], .bool (gtV E m).2]) ∧ Below w.heap.size w w' := by
  obtain ⟨R, HR⟩ : ∃ R, Hid (gtV E m = R) := ⟨_, rfl⟩
  rw [HR.out]
  obtain ⟨W, HWe⟩ : ∃ W, Hid (w.alloc (.cells #[.int .i64 0, .int .i64 0, .string ⟨#[]⟩] 71) = W) := ⟨_, rfl⟩
  have HB : Hid (Below w.heap.size w W) := by rw [← HWe.out]; exact alloc_below _ _
  have HX : Hid (Bx W w.heap.size #[.int .i64 0, .int .i64 0, .string ⟨#[]⟩]) := Bx.made' HWe.out rfl
  have HL : Hid (Calls Tryz.prog 101 #[.slice ao N cap, .string m] W fun e W' => ((e = .returned (.int .i64 (-1)) ∧ gtB E m = none) ∨ ∃ (j : Nat) (s : Sl), e = .returned (.int .i64 (j : Int)) ∧ E[j]? = some s ∧ gtB E m = some s) ∧ Below W.heap.size W W') :=
    lastof_any ao N cap m E W hN hNb (hI.next HB.out)
  have HI : Hid (∀ w', Below w.heap.size w w' → IsSls w' ao E) := fun w' h => hI.next h
  have HN : Hid (E.length = N) := hN
  clear hI hN
  go_enter Tryz.func70, Tryz.ntmps70
  go_wp2_with fail
  rw [HWe.out]
  clear HWe
  refine HL.out.mono ?_
  rintro e w1 ⟨hr, hb1⟩
  have HB1 : Hid (Below w.heap.size w w1) := next_trans HB.out hb1
  have HX1 : Hid (Bx w1 w.heap.size #[.int .i64 0, .int .i64 0, .string ⟨#[]⟩]) := HX.out.next hb1
  have r0 : w1.cell? ⟨w.heap.size, 0, none⟩ = some (.int .i64 0) := HX1.out.cell 0
  have r1 : w1.cell? ⟨w.heap.size, 1, none⟩ = some (.int .i64 0) := HX1.out.cell 1
  have r2 : w1.cell? ⟨w.heap.size, 2, none⟩ = some (.string ⟨#[]⟩) := HX1.out.cell 2
  have rf := HX1.out.froz
  have HD := bel3 (b := w.heap.size) HB1.out (Nat.le_refl _)
  rcases hr with ⟨rfl, hg⟩ | ⟨j, s, rfl, hs, hg⟩
  · have HF : Hid (R = (zSl, false)) := by rw [Hid, ← HR.out]; exact gtV_no hg
    clear hg hb1 HL HX HB HX1 HR HI
    go_wp2
    exact bodyPost_ret (v := .tuple #[.agg #[.int .i64 (0), .int .i64 (0), .string (⟨#[]⟩)], .bool false]) (by simp [results, Tryz.results70, go_sem, r0, r1, r2]) rfl ⟨ret_gv (n := noS) HF.out, HD _ _ _⟩
  · have HF : Hid (R = (s, true)) := by rw [Hid, ← HR.out]; exact gtV_yes hg
    have hj : j < N := by have := (List.getElem?_eq_some_iff.1 hs).1; rw [HN.out] at this; exact this
    have hji : (j : Int) < (N : Int) := by omega
    have hj0 : (0 : Int) ≤ (j : Int) := by omega
    have hjn : ¬ (j : Int) < 0 := by omega
    obtain ⟨b, o, rfl, c0, c1, c2, c3⟩ := HI.out w1 HB1.out j s hs
    obtain ⟨sn, sk, si, ss⟩ := s
    simp only at c0 c1 c2 c3
    clear hg hb1 HL HX HB HX1 HR HI hs hj
    go_wp2
    exact bodyPost_ret (v := .tuple #[.agg #[.int .i64 (sk), .int .i64 (si), .string (ss)], .bool true]) (by simp [results, Tryz.results70, go_sem, r0, r1, r2]) rfl ⟨ret_gv HF.out, HD _ _ _⟩
set_option maxHeartbeats 4000000 in
set_option maxRecDepth 8000 in
theorem rgt_any (ao : Option Addr) (N cap : Nat) (E : List Sl) (m : ByteArray) (w : World) (hN : E.length = N) (hNb : N ≤ 100000) (hI : IsSls w ao E) :
    Calls Tryz.prog 72 #[.slice ao N cap, .string m] w fun e w' => e = .returned (.tuple #[.agg #[.int .i64 ((gtV E m).1.k), .int .i64 ((gtV E m).1.i), .string ((gtV E m).1.s)], .bool (gtV E m).2]) ∧ Below w.heap.size w w' := by
  obtain ⟨R, HR⟩ : ∃ R, Hid (gtV E m = R) := ⟨_, rfl⟩
  have HEn : Hid (IsSls w ao E) := hI
  have HN : Hid (E.length = N) := hN
  rw [HR.out]
  clear hI hN
  have hm1 : IntKind.i64.wrap ((N : Int) - 1) = (N : Int) - 1 := by rw [IntKind.wrap_i64] <;> omega
  go_enter Tryz.func72, Tryz.ntmps72
  go_wp2
  obtain ⟨W, hW⟩ : ∃ W, w.alloc (.cells #[.int .i64 0, .int .i64 0, .string ⟨#[]⟩] 71) = W := ⟨_, rfl⟩
  have HB : Hid (Below w.heap.size w W) := by rw [← hW]; exact alloc_below _ _
  have HX : Bx W w.heap.size #[.int .i64 0, .int .i64 0, .string ⟨#[]⟩] := Bx.made' hW rfl
  have z0 : W.cell? ⟨w.heap.size, 0, none⟩ = some (.int .i64 0) := HX.cell 0
  have z1 : W.cell? ⟨w.heap.size, 1, none⟩ = some (.int .i64 0) := HX.cell 1
  have z2 : W.cell? ⟨w.heap.size, 2, none⟩ = some (.string ⟨#[]⟩) := HX.cell 2
  have zf := HX.froz
  have HD := bel3 (b := w.heap.size) HB.out (Nat.le_refl _)
  rw [hW]
  clear hW HX
  go_loop [6] (fun q => ∃ k : Nat, k ≤ N ∧ q = .int .i64 ((k : Int) - 1) ∧ Hid (∀ (j : Nat) (p : Sl), k ≤ j → E[j]? = some p → p.n ≠ m)) (fun q => (intOf q + 1).toNat)
  case atStart => exact ⟨N, Nat.le_refl _, by go_num, fun j p hm hp => absurd (List.getElem?_eq_some_iff.1 hp).1 (by rw [HN.out]; omega)⟩
  case round =>
    obtain ⟨k, hk, hq, HA⟩ := hrel
    cases k with
    | zero =>
      have hq' : u6 = .int .i64 (-1) := hq
      subst hq'
      have HF : Hid (R = (zSl, false)) := by rw [Hid, ← HR.out]; exact gtV_no (gtB_miss E m fun j p hp => HA.out j p (Nat.zero_le _) hp)
      clear hq
      go_wp2
      exact bodyPost_ret (v := .tuple #[.agg #[.int .i64 (0), .int .i64 (0), .string (⟨#[]⟩)], .bool false]) (by simp [results, Tryz.results72, go_sem, z0, z1, z2]) rfl ⟨ret_gv (n := noS) HF.out, HD _ _ _⟩
    | succ j =>
      have hq' : u6 = .int .i64 (j : Int) := by rw [hq]; congr 1; omega
      subst hq'
      have hlt : j < N := by omega
      have hji : (j : Int) < (N : Int) := by omega
      have hj0 : (0 : Int) ≤ (j : Int) := by omega
      obtain ⟨p, hp⟩ : ∃ p, E[j]? = some p := ⟨_, List.getElem?_eq_getElem (by rw [HN.out]; exact hlt)⟩
      obtain ⟨b, o, rfl, c0, c1, c2, c3⟩ := HEn.out.next HB.out j p hp
      have HPk : Hid (E[j]? = some p) := hp
      obtain ⟨pn, pk, pi, ps⟩ := p
      simp only at c0 c1 c2 c3
      clear hp hq
      by_cases he : pn = m
      · have d : (pn.toList == m.toList) = true := by rw [beq_ba]; exact decide_eq_true he
        have HF : Hid (R = (⟨pn, pk, pi, ps⟩, true)) := by rw [Hid, ← HR.out]; exact gtV_yes (gtB_hit E j _ m HPk.out he fun i x hi hx => HA.out i x (by omega) hx)
        clear he
        go_wp2
        exact bodyPost_ret (v := .tuple #[.agg #[.int .i64 (pk), .int .i64 (pi), .string (ps)], .bool true]) (by simp [results, Tryz.results72, go_sem, z0, z1, z2]) rfl ⟨ret_gv HF.out, HD _ _ _⟩
      · have d : (pn.toList == m.toList) = false := by rw [beq_ba]; exact decide_eq_false he
        have HA2 : Hid (∀ (i : Nat) (p : Sl), j ≤ i → E[i]? = some p → p.n ≠ m) := by
          intro i q hi hq
          by_cases e : i = j
          · subst e; rw [HPk.out] at hq; cases hq; exact he
          · exact HA.out i q (by omega) hq
        clear he
        go_wp2
        go_round
        case rel => exact ⟨j, by omega, by go_num, HA2⟩
        case measure => simp [intOf]
end Go.Proofs.YtnhbjhdkpbhioaaGreatDoor
