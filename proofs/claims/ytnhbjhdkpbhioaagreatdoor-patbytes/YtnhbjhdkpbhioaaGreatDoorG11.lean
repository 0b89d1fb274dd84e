import Derived.Deep.QuietTactic
import Derived.BigQuiet
import Derived.Test.YtnhbjhdkpbhioaaGreatDoorG10
import Derived.Test.YtnhbjhdkpbhioaaGreatDoorG7
namespace Go.Proofs.YtnhbjhdkpbhioaaGreatDoor
open Go.RowKit
def Three (w : World) (R T : Nat) (x y z : Value) : Prop := w.heap[R]? = some (.cells #[x, y, z] T (0, 0))
theorem Three.lt {w : World} {R T : Nat} {x y z : Value} (h : Three w R T x y z) : R < w.heap.size := by
  rcases Nat.lt_or_ge R w.heap.size with h1 | h1
  · exact h1
  · unfold Three at h; rw [Array.getElem?_eq_none h1] at h; exact absurd h (by simp)
theorem Three.cells {w : World} {R T : Nat} {x y z : Value} (h : Three w R T x y z) : w.cell? ⟨R, 0, none⟩ = some x ∧ w.cell? ⟨R, 1, none⟩ = some y ∧ w.cell? ⟨R, 2, none⟩ = some z ∧ ∀ j, w.frozen? ⟨R, j, none⟩ = false := by
  refine ⟨?_, ?_, ?_, fun j => Lib.frozen_of_heap h j⟩ <;> (unfold Three at h; unfold World.cell?; rw [h]; rfl)
theorem Three.set1 {w : World} {R T : Nat} {x y z : Value} (h : Three w R T x y z) (u : Value) : Three (w.setCell ⟨R, 1, none⟩ u) R T x u z := by
  unfold Three at h ⊢
  simp [World.setCell, Array.getElem?_modify, h]
theorem Three.set2 {w : World} {R T : Nat} {x y z : Value} (h : Three w R T x y z) (u : Value) : Three (w.setCell ⟨R, 2, none⟩ u) R T x y u := by
  unfold Three at h ⊢
  simp [World.setCell, Array.getElem?_modify, h]
def RfAt (w : World) (R : Nat) (L : List Tk) (p c : Nat) : Prop := p ≤ L.length ∧ ∃ ao cap, Three w R 103 (.slice ao L.length cap) (.int .i64 (p : Int)) (.int .i64 (c : Int)) ∧ L.length ≤ cap ∧ IsToks w ao L ∧ ∀ a, ao = some a → a.block < R
theorem RfAt.lt {w : World} {R p c : Nat} {L : List Tk} (h : RfAt w R L p c) : R < w.heap.size := by
  obtain ⟨_, ao, cap, h1, _⟩ := h
  exact h1.lt
theorem RfAt.keep {w w' : World} {R p c : Nat} {L : List Tk} (h : RfAt w R L p c) (hw : ∀ k, k ≤ R → w'.heap[k]? = w.heap[k]?) : RfAt w' R L p c := by
  obtain ⟨h0, ao, cap, h1, h2, h3, h4⟩ := h
  refine ⟨h0, ao, cap, ?_, h2, h3.keep h4 fun k hk => hw k (by omega), h4⟩
  unfold Three at h1 ⊢
  rw [hw R (Nat.le_refl _)]; exact h1
theorem RfAt.next {w w' : World} {R p c : Nat} {L : List Tk} (h : RfAt w R L p c) (hb : Below w.heap.size w w') : RfAt w' R L p c := h.keep fun k hk => hb.block k (by have := h.lt; omega)
theorem RfAt.set {w : World} {R p c b j : Nat} {v : Value} {L : List Tk} (h : RfAt w R L p c) (hb : R < b) : RfAt (w.setCell ⟨b, j, none⟩ v) R L p c := h.keep fun k hk => Below.heap_setCell _ _ _ _ (by show k ≠ b; omega)
theorem RfAt.setp {w : World} {R p c : Nat} {L : List Tk} (h : RfAt w R L p c) (p' : Nat) (hp : p' ≤ L.length) (q : Int) (hq : q = (p' : Int)) : RfAt (w.setCell ⟨R, 1, none⟩ (.int .i64 q)) R L p' c := by
  subst hq
  obtain ⟨h0, ao, cap, h1, h2, h3, h4⟩ := h
  exact ⟨hp, ao, cap, h1.set1 _, h2, h3.keep h4 fun k hk => Below.heap_setCell _ _ _ _ (by show k ≠ R; omega), h4⟩
theorem RfAt.setc {w : World} {R p c : Nat} {L : List Tk} (h : RfAt w R L p c) (c' : Nat) (q : Int) (hq : q = (c' : Int)) : RfAt (w.setCell ⟨R, 2, none⟩ (.int .i64 q)) R L p c' := by
  subst hq
  obtain ⟨h0, ao, cap, h1, h2, h3, h4⟩ := h
  exact ⟨h0, ao, cap, h1.set2 _, h2, h3.keep h4 fun k hk => Below.heap_setCell _ _ _ _ (by show k ≠ R; omega), h4⟩
def WrIs (w : World) (B : Nat) (v : Value) (a : Int) (f : Int) : Prop := ∃ b, B ≤ b ∧ v = .agg #[.slice (some ⟨b, 0, none⟩) 1 1, .int .i64 f] ∧ w.cell? ⟨b, 0, none⟩ = some (.string ⟨#[99, 104, 97, 114]⟩) ∧ w.cell? ⟨b, 1, none⟩ = some (.int .i64 a)
theorem WrIs.keep {w w' : World} {B B' : Nat} {v : Value} {a f : Int} (h : WrIs w B v a f) (hB : B' ≤ B) (hw : ∀ k, B ≤ k → k < w.heap.size → w'.heap[k]? = w.heap[k]?) : WrIs w' B' v a f := by
  obtain ⟨b, h1, h2, h3, h4⟩ := h
  have hb := hw b h1 (World.block_lt_of_cell? w ⟨b, 0, none⟩ h3)
  exact ⟨b, by omega, h2, by rw [World.cell?_of_block (a := ⟨b, 0, none⟩) hb]; exact h3, by rw [World.cell?_of_block (a := ⟨b, 1, none⟩) hb]; exact h4⟩
theorem wat_any (a f : Int) (w : World) :
    Calls Tryz.prog 39 #[.string ⟨#[99, 104, 97, 114]⟩, .int .i64 a, .int .i64 f] w fun e w' => e = .returned (.agg #[.slice (some ⟨w.heap.size + 1, 0, none⟩) 1 1, .int .i64 f]) ∧ WrIs w' w.heap.size (.agg #[.slice (some ⟨w.heap.size + 1, 0, none⟩) 1 1, .int .i64 f]) a f ∧ Below w.heap.size w w' := by
  go_enter Tryz.func39, Tryz.ntmps39
  go_wp2
  refine bodyPost_ret (v := .agg #[.slice (some ⟨w.heap.size + 1, 0, none⟩) 1 1, .int .i64 f]) (by simp [results, Tryz.results39, go_sem]) rfl ⟨rfl, ⟨w.heap.size + 1, by omega, rfl, ?_, ?_⟩, ?_⟩
  · exact box_cell (by simp) rfl
  · exact box_cell (by simp) rfl
  · exact ((Below.refl _ _).alloc (Nat.le_refl _) _).alloc (by simp) _
def PtAt (w : World) (b : Nat) (a : Int) : Prop := w.cell? ⟨b, 0, none⟩ = some (.string ⟨#[99, 104, 97, 114]⟩) ∧ w.cell? ⟨b, 1, none⟩ = some (.int .i64 a)
theorem PtAt.keep {w w' : World} {b : Nat} {a : Int} (h : PtAt w b a) (hw : w'.heap[b]? = w.heap[b]?) : PtAt w' b a :=
  ⟨by rw [World.cell?_of_block (a := ⟨b, 0, none⟩) hw]; exact h.1, by rw [World.cell?_of_block (a := ⟨b, 1, none⟩) hw]; exact h.2⟩
theorem wat_ex (a f : Int) (w : World) :
    Calls Tryz.prog 39 #[.string ⟨#[99, 104, 97, 114]⟩, .int .i64 a, .int .i64 f] w fun e w' => (∃ b, e = .returned (.agg #[.slice (some ⟨b, 0, none⟩) 1 1, .int .i64 f]) ∧ w.heap.size ≤ b ∧ PtAt w' b a) ∧ Below w.heap.size w w' := by
  refine (wat_any a f w).mono ?_
  rintro e w' ⟨rfl, ⟨b, h1, h2, h3, h4⟩, hb⟩
  injection h2 with h2
  simp only [Array.mk.injEq, List.cons.injEq, Value.slice.injEq, Option.some.injEq, Addr.mk.injEq] at h2
  obtain ⟨⟨⟨rfl, _⟩, _⟩, _⟩ := h2
  exact ⟨⟨_, rfl, h1, h3, h4⟩, hb⟩
def RfRes (R : Nat) (L : List Tk) (w w' : World) (e : Ending) : NR → Prop
  | .error (a, f) => ∃ (k a' i : Int) (s : ByteArray) (ao : Option Addr) (n cap : Nat) (v : Value), e = .returned (.tuple #[.agg #[.int .i64 (k), .int .i64 (a'), .int .i64 (i), .string (s), .slice ao n cap], v]) ∧ WrIs w' w.heap.size v a f
  | .ok (x, n, r) => (∃ c : Nc, e = .returned (.tuple #[nodeV c, .agg #[.slice none 0 0, .int .i64 0]]) ∧ NcIs w' (geB w.heap.size) c x) ∧ ∃ p, L.drop p = r ∧ RfAt w' R L p n
theorem RfRes.form {R : Nat} {L : List Tk} {w w' : World} {e : Ending} {E : NR} (h : RfRes R L w w' e E) : ∃ (k a i : Int) (s : ByteArray) (ao : Option Addr) (n cap : Nat) (wao : Option Addr) (wn wcap : Nat) (wf : Int), e = .returned (.tuple #[.agg #[.int .i64 (k), .int .i64 (a), .int .i64 (i), .string (s), .slice ao n cap], .agg #[.slice wao wn wcap, .int .i64 wf]]) := by
  rcases E with ⟨a, f⟩ | ⟨x, n, r⟩
  · obtain ⟨k, a', i, s, ao, n, cap, v, h1, b, h2, rfl, _⟩ := h
    exact ⟨k, a', i, s, ao, n, cap, _, _, _, _, h1⟩
  · obtain ⟨⟨c, h1, _⟩, _⟩ := h
    exact ⟨_, _, _, _, _, _, _, _, _, _, _, h1⟩
def RNodeC (f : Nat) : Prop := ∀ (R d n p : Nat) (L : List Tk) (w : World), (∀ t ∈ L, WfT t.k t.i t.s) → L.length ≤ 100000 → p < L.length → L.length - p ≤ f → n ≤ 4096 → d ≤ 32 → RfAt w R L p n →
  Calls Tryz.prog 40 #[.pointer (some ⟨R, 0, none⟩), .int .i64 (d : Int)] w fun e w' => RfRes R L w w' e (rdN f d n (L.drop p)) ∧ Tch R w w'
theorem RfAt.c12 {w : World} {R p c : Nat} {L : List Tk} (h : RfAt w R L p c) : w.cell? ⟨R, 1, none⟩ = some (.int .i64 (p : Int)) ∧ w.cell? ⟨R, 2, none⟩ = some (.int .i64 (c : Int)) ∧ ∀ j, w.frozen? ⟨R, j, none⟩ = false := by
  obtain ⟨_, ao, cap, h1, _⟩ := h
  obtain ⟨_, d1, d2, df⟩ := h1.cells
  exact ⟨d1, d2, df⟩
theorem RfAt.c0 {w : World} {R p c : Nat} {L : List Tk} (h : RfAt w R L p c) : ∃ ao cap, w.cell? ⟨R, 0, none⟩ = some (.slice ao L.length cap) := by
  obtain ⟨_, ao, cap, h1, _⟩ := h
  exact ⟨ao, cap, h1.cells.1⟩
theorem RfAt.get {w : World} {R p c : Nat} {L : List Tk} {t : Tk} (h : RfAt w R L p c) (ht : L[p]? = some t) : ∃ b o cap, w.cell? ⟨R, 0, none⟩ = some (.slice (some ⟨b, o, none⟩) L.length cap) ∧ w.cell? ⟨R, 1, none⟩ = some (.int .i64 (p : Int)) ∧ w.cell? ⟨R, 2, none⟩ = some (.int .i64 (c : Int)) ∧ (∀ j, w.frozen? ⟨R, j, none⟩ = false) ∧ b < R ∧
    w.cell? ⟨b, o + p * 4, none⟩ = some (.int .i64 t.k) ∧ w.cell? ⟨b, o + p * 4 + 1, none⟩ = some (.int .i64 (t.a : Int)) ∧ w.cell? ⟨b, o + p * 4 + 2, none⟩ = some (.int .i64 t.i) ∧ w.cell? ⟨b, o + p * 4 + 3, none⟩ = some (.string (baL t.s)) := by
  obtain ⟨h0, ao, cap, h1, h2, h3, h4⟩ := h
  obtain ⟨b, o, rfl, c0, c1, c2, c3⟩ := h3 p t ht
  obtain ⟨d0, d1, d2, df⟩ := h1.cells
  exact ⟨b, o, cap, d0, d1, d2, df, h4 _ rfl, c0, c1, c2, c3⟩
structure RnSt (R : Nat) (L : List Tk) (w W : World) (p n : Nat) (tk xk : Int) (ta : Nat) (ti : Int) (Y : ByteArray) (v : Value) : Prop where
  at_ : RfAt W R L p n
  tch : Tch R w W
  b0 : Box5 W w.heap.size (.int .i64 0) (.int .i64 0) (.int .i64 0) (.string ⟨#[]⟩) (.slice none 0 0)
  b1 : Two W (w.heap.size + 1) 27 (.slice none 0 0) (.int .i64 0)
  t0 : W.cell? ⟨w.heap.size + 2, 0, none⟩ = some (.int .i64 tk)
  t1 : W.cell? ⟨w.heap.size + 2, 1, none⟩ = some (.int .i64 (ta : Int))
  b3 : Box5 W (w.heap.size + 3) (.int .i64 xk) (.int .i64 (ta : Int)) (.int .i64 ti) (.string Y) v
theorem RnSt.lt {R p n ta : Nat} {L : List Tk} {w W : World} {tk xk ti : Int} {Y : ByteArray} {v : Value} (h : RnSt R L w W p n tk xk ta ti Y v) : w.heap.size + 3 < W.heap.size := h.b3.lt
theorem RnSt.keep {R p n ta : Nat} {L : List Tk} {w W W' : World} {tk xk ti : Int} {Y : ByteArray} {v : Value} (h : RnSt R L w W p n tk xk ta ti Y v) (hb : Tch R w W') (hw : ∀ k, k < w.heap.size + 4 → W'.heap[k]? = W.heap[k]?) (hR : R < w.heap.size) : RnSt R L w W' p n tk xk ta ti Y v :=
  ⟨h.at_.keep fun k hk => hw k (by omega), hb, h.b0.keep (hw _ (by omega)), by unfold Two; rw [hw _ (by omega)]; exact h.b1,
    by rw [World.cell?_of_block (a := ⟨w.heap.size + 2, 0, none⟩) (hw _ (by show w.heap.size + 2 < _; omega))]; exact h.t0, by rw [World.cell?_of_block (a := ⟨w.heap.size + 2, 1, none⟩) (hw _ (by show w.heap.size + 2 < _; omega))]; exact h.t1, h.b3.keep (hw _ (by omega))⟩
theorem RnSt.below {R p n ta : Nat} {L : List Tk} {w W W' : World} {tk xk ti : Int} {Y : ByteArray} {v : Value} (h : RnSt R L w W p n tk xk ta ti Y v) (hb : Below W.heap.size W W') (hR : R < w.heap.size) : RnSt R L w W' p n tk xk ta ti Y v :=
  h.keep (h.tch.below_of hb) (fun k hk => hb.block k (by have := h.lt; omega)) hR
theorem RnSt.drewN {R p n ta : Nat} {L : List Tk} {w W : World} {tk xk ti : Int} {Y : ByteArray} {v : Value} (h : RnSt R L w W p n tk xk ta ti Y v) (q : Nat) : RnSt R L w (W.drewN q) p n tk xk ta ti Y v :=
  ⟨h.at_, ⟨h.tch.os, h.tch.tape, h.tch.output, h.tch.size, h.tch.block⟩, h.b0, h.b1, h.t0, h.t1, h.b3⟩
theorem RnSt.drew {R p n ta : Nat} {L : List Tk} {w W : World} {tk xk ti : Int} {Y : ByteArray} {v : Value} (h : RnSt R L w W p n tk xk ta ti Y v) : RnSt R L w W.drew p n tk xk ta ti Y v :=
  ⟨h.at_, ⟨h.tch.os, h.tch.tape, h.tch.output, h.tch.size, h.tch.block⟩, h.b0, h.b1, h.t0, h.t1, h.b3⟩
def errW (w w3 : World) (b3 : Nat) (f : Int) : World := ((set5 w3 w.heap.size (.int .i64 0) (.int .i64 0) (.int .i64 0) (.string ⟨#[]⟩) (.slice none 0 0)).setCell ⟨w.heap.size + 1, 0, none⟩ (.slice (some ⟨b3, 0, none⟩) 1 1)).setCell ⟨w.heap.size + 1, 1, none⟩ (.int .i64 f)
theorem err_res {R b3 : Nat} {L : List Tk} {w w3 : World} {a : Nat} {f : Int} {E : NR} (hE : E = .error (a, f)) (hP : PtAt w3 b3 a) (hB : w.heap.size + 2 ≤ b3) (hT : Tch R w w3) :
    RfRes R L w (errW w w3 b3 f) (.returned (.tuple #[zeroNd, .agg #[.slice (some ⟨b3, 0, none⟩) 1 1, .int .i64 f]])) E ∧ Tch R w (errW w w3 b3 f) := by
  subst hE
  have hP2 := hP.keep (w' := errW w w3 b3 f) (by
    unfold errW
    rw [Below.heap_setCell _ _ _ _ (by show b3 ≠ w.heap.size + 1; omega), Below.heap_setCell _ _ _ _ (by show b3 ≠ w.heap.size + 1; omega), set5_block _ _ _ _ _ (by omega)])
  exact ⟨⟨0, 0, 0, ⟨#[]⟩, none, 0, 0, _, rfl, b3, by omega, rfl, hP2.1, hP2.2⟩, ((set5_tch _ _ _ _ _ hT (Nat.le_refl _)).set' (by omega)).set' (by omega)⟩
def set7 (w : World) (b : Nat) (v0 v1 v2 v3 v4 x0 x1 : Value) : World := ((set5 w b v0 v1 v2 v3 v4).setCell ⟨b + 1, 0, none⟩ x0).setCell ⟨b + 1, 1, none⟩ x1
theorem set7_block {w : World} {b k : Nat} (v0 v1 v2 v3 v4 x0 x1 : Value) (h : k ≠ b) (h2 : k ≠ b + 1) : (set7 w b v0 v1 v2 v3 v4 x0 x1).heap[k]? = w.heap[k]? := by
  unfold set7
  rw [Below.heap_setCell _ _ _ _ (by exact h2), Below.heap_setCell _ _ _ _ (by exact h2), set5_block _ _ _ _ _ h]
theorem set7_tch {R b : Nat} {w w1 : World} (v0 v1 v2 v3 v4 x0 x1 : Value) (h : Tch R w w1) (hb : w.heap.size ≤ b) : Tch R w (set7 w1 b v0 v1 v2 v3 v4 x0 x1) := ((set5_tch _ _ _ _ _ h hb).set' (by omega)).set' (by omega)
theorem Tch.drew {R : Nat} {w w1 : World} (h : Tch R w w1) : Tch R w w1.drew := ⟨h.os, h.tape, h.output, h.size, h.block⟩
theorem Tch.drewN {R : Nat} {w w1 : World} (h : Tch R w w1) (q : Nat) : Tch R w (w1.drewN q) := ⟨h.os, h.tape, h.output, h.size, h.block⟩
theorem ret_inj {a b c d e : Value} {f g a' b' c' d' e' f' g' : Value} (h : Ending.returned (.tuple #[.agg #[a, b, c, d, e], .agg #[f, g]]) = .returned (.tuple #[.agg #[a', b', c', d', e'], .agg #[f', g']])) : a = a' ∧ b = b' ∧ c = c' ∧ d = d' ∧ e = e' ∧ f = f' ∧ g = g' := by
  injection h with h
  injection h with h
  simp only [Array.mk.injEq, List.cons.injEq, Value.agg.injEq, and_true] at h
  obtain ⟨⟨h1, h2, h3, h4, h5⟩, h6, h7⟩ := h
  exact ⟨h1, h2, h3, h4, h5, h6, h7⟩
theorem RfRes.drew {R : Nat} {L : List Tk} {w w' : World} {e : Ending} {E : NR} (h : RfRes R L w w' e E) : RfRes R L w w'.drew e E := by
  rcases E with ⟨a, f⟩ | ⟨x, n, r⟩
  · obtain ⟨k, a', i, s, ao, n, cap, v, h1, b, h2, h3, h4, h5⟩ := h
    exact ⟨k, a', i, s, ao, n, cap, v, h1, b, h2, h3, h4, h5⟩
  · obtain ⟨⟨c, h1, h2⟩, q, h3, h4⟩ := h
    exact ⟨⟨c, h1, h2.keep fun _ hk _ => ⟨rfl, hk⟩⟩, q, h3, h4.keep fun _ _ => rfl⟩
def kidW (w5 : World) (x : Nat) (k a i : Int) (s : ByteArray) (v : Value) (wv we : Value) : World :=
  (((w5.setCell ⟨x, 4, none⟩ (.slice (some ⟨w5.heap.size + 1 + 1, 0, none⟩) 1 1)).alloc (.cells #[.int .i64 k, .int .i64 a, .int .i64 i, .string s, v] 46)).alloc (.cells #[wv, we] 27)).alloc (.cells #[.int .i64 k, .int .i64 a, .int .i64 i, .string s, v] 46)
theorem kid_block {w5 : World} {x : Nat} {k a i : Int} {s : ByteArray} {v wv we : Value} (j : Nat) (hj : j < w5.heap.size) (hx : j ≠ x) : (kidW w5 x k a i s v wv we).heap[j]? = w5.heap[j]? := by
  unfold kidW
  have hs : ∀ u : Value, (w5.setCell ⟨x, 4, none⟩ u).heap.size = w5.heap.size := fun u => by simp [World.setCell]
  rw [Below.heap_alloc _ _ _ (by rw [World.size_alloc, World.size_alloc, hs]; omega), Below.heap_alloc _ _ _ (by rw [World.size_alloc, hs]; omega), Below.heap_alloc _ _ _ (by rw [hs]; exact hj), Below.heap_setCell _ _ _ _ (by exact hx)]
theorem kid_size {w5 : World} {x : Nat} {k a i : Int} {s : ByteArray} {v wv we : Value} : (kidW w5 x k a i s v wv we).heap.size = w5.heap.size + 3 := by
  unfold kidW
  simp [World.setCell]
theorem kid_x {w5 : World} {x : Nat} {k a i : Int} {s : ByteArray} {v wv we v0 v1 v2 v3 v4 : Value} (h : Box5 w5 x v0 v1 v2 v3 v4) : Box5 (kidW w5 x k a i s v wv we) x v0 v1 v2 v3 (.slice (some ⟨w5.heap.size + 1 + 1, 0, none⟩) 1 1) := by
  unfold kidW
  exact (((h.set4 _).next (alloc_below _ _)).next (alloc_below _ _)).next (alloc_below _ _)
theorem kid_w {w5 : World} {x : Nat} {k a i : Int} {s : ByteArray} {v wv we : Value} : (kidW w5 x k a i s v wv we).cell? ⟨w5.heap.size + 1, 0, none⟩ = some wv ∧ (kidW w5 x k a i s v wv we).cell? ⟨w5.heap.size + 1, 1, none⟩ = some we := by
  unfold kidW
  exact ⟨alloc_cell (box_cell (by simp [World.setCell]) rfl), alloc_cell (box_cell (by simp [World.setCell]) rfl)⟩
theorem kid_row {w5 : World} {x : Nat} {k a i : Int} {s : ByteArray} {v wv we : Value} (j : Nat) (u : Value) (h : [Value.int .i64 k, .int .i64 a, .int .i64 i, .string s, v][j]? = some u) : (kidW w5 x k a i s v wv we).cell? ⟨w5.heap.size + 1 + 1, j, none⟩ = some u := by
  unfold kidW
  exact box_cell (by simp [World.setCell]) (by rw [← Array.getElem?_toList]; exact h)
end Go.Proofs.YtnhbjhdkpbhioaaGreatDoor
namespace Go.Proofs.YtnhbjhdkpbhioaaGreatDoor
open Go.RowKit
set_option linter.unusedVariables false in
set_option maxHeartbeats 8000000 in
set_option maxRecDepth 20000 in
theorem rn_close (f : Nat) (hN : ∀ g, g < f → RNodeC g) (R d n p : Nat) (L : List Tk) (w : World) (hW : ∀ t ∈ L, WfT t.k t.i t.s) (hL : L.length ≤ 100000) (hp : p < L.length) (hf : L.length - p ≤ f) (hn : n ≤ 4096) (hd : d ≤ 32) (hr : RfAt w R L p n) (t : Tk) (ht : L[p]? = some t) (k5 : t.k = 5) :
    Calls Tryz.prog 40 #[.pointer (some ⟨R, 0, none⟩), .int .i64 (d : Int)] w fun e w' => RfRes R L w w' e (rdN f d n (L.drop p)) ∧ Tch R w w' := by
  have HWf : Hid (∀ t ∈ L, WfT t.k t.i t.s) := hW
  have hdr : L.drop p = t :: L.drop (p + 1) := by
    obtain ⟨h1, h2⟩ := List.getElem?_eq_some_iff.1 ht
    rw [List.drop_eq_getElem_cons h1, h2]
  obtain ⟨E, HE⟩ : ∃ E, Hid (rdN f d n (L.drop p) = E) := ⟨_, rfl⟩
  rw [HE.out]
  have HX := HE.out
  rw [hdr, rdN_cons] at HX
  have HRw : R < w.heap.size := hr.lt
  have HR1 : Hid (RfAt w R L p n) := hr
  obtain ⟨b, o, cap, c0, c1, c2, cf, hbR, t0, t1, t2, t3⟩ := hr.get ht
  have hbw : b < w.heap.size := by omega
  have HNd : Hid (∀ g, g < f → RNodeC g) := hN
  have HWt : Hid (WfT t.k t.i t.s) := hW t (List.mem_of_getElem? ht)
  have HDr : Hid (L.drop p = t :: L.drop (p + 1)) := hdr
  obtain ⟨N, HNl⟩ : ∃ N, Hid (L.length = N) := ⟨_, rfl⟩
  rw [HNl.out] at hL hp hf c0
  obtain ⟨tk, ta, ti, ts⟩ := t
  simp only at HX t0 t1 t2 t3 HWt k5
  have Hk5 : Hid (tk = 5) := k5
  clear k5
  obtain ⟨Y, HY⟩ : ∃ Y, Hid (baL ts = Y) := ⟨_, rfl⟩
  rw [HY.out] at t3
  have hpi : (p : Int) < (N : Int) := by omega
  have hp0 : (0 : Int) ≤ (p : Int) := by omega
  clear HE hr hN ht hdr hW
  go_enter Tryz.func40, Tryz.ntmps40
  go_wp2_with fail
  obtain ⟨W1, hW1⟩ : ∃ W1, (w.alloc (.cells #[.int .i64 0, .int .i64 0, .int .i64 0, .string ⟨#[]⟩, .slice none 0 0] 46)).alloc (.cells #[.slice none 0 0, .int .i64 0] 27) = W1 := ⟨_, rfl⟩
  have HBw : Hid (Below w.heap.size w W1) := by rw [Hid, ← hW1]; exact next_trans (alloc_below _ _) (alloc_below _ _)
  have hs1 : W1.heap.size = w.heap.size + 2 := by rw [← hW1]; simp
  have HB5 : Hid (Box5 W1 w.heap.size (.int .i64 0) (.int .i64 0) (.int .i64 0) (.string ⟨#[]⟩) (.slice none 0 0)) := by rw [Hid, ← hW1]; exact (Box5.made w _ _ _ _ _ _).next (alloc_below _ _)
  have HB2 : Hid (Two W1 (w.heap.size + 1) 27 (.slice none 0 0) (.int .i64 0)) := by
    rw [Hid, ← hW1]
    show (Array.push _ _)[w.heap.size + 1]? = _
    rw [Array.getElem?_push, if_pos (by simp)]
  rw [hW1]
  have q0 := keep_cell HBw.out c0
  have q1 := keep_cell HBw.out c1
  have q2 := keep_cell HBw.out t0
  have q3 := keep_cell HBw.out t1
  have q4 := keep_cell HBw.out t2
  have q5 := keep_cell HBw.out t3
  have r0 : (W1.alloc (.cells #[.int .i64 0, .int .i64 0, .int .i64 0, .string ⟨#[]⟩] 175)).cell? ⟨R, 0, none⟩ = _ := alloc_cell q0
  have r1 : (W1.alloc (.cells #[.int .i64 0, .int .i64 0, .int .i64 0, .string ⟨#[]⟩] 175)).cell? ⟨R, 1, none⟩ = _ := alloc_cell q1
  have r2 : (W1.alloc (.cells #[.int .i64 0, .int .i64 0, .int .i64 0, .string ⟨#[]⟩] 175)).cell? ⟨b, o + p * 4, none⟩ = _ := alloc_cell q2
  have r3 : (W1.alloc (.cells #[.int .i64 0, .int .i64 0, .int .i64 0, .string ⟨#[]⟩] 175)).cell? ⟨b, o + p * 4 + 1, none⟩ = _ := alloc_cell q3
  have r4 : (W1.alloc (.cells #[.int .i64 0, .int .i64 0, .int .i64 0, .string ⟨#[]⟩] 175)).cell? ⟨b, o + p * 4 + 2, none⟩ = _ := alloc_cell q4
  have r5 : (W1.alloc (.cells #[.int .i64 0, .int .i64 0, .int .i64 0, .string ⟨#[]⟩] 175)).cell? ⟨b, o + p * 4 + 3, none⟩ = _ := alloc_cell q5
  clear hW1 c0 c1 c2 t0 t1 t2 t3
  go_region
  obtain ⟨W2, hW2⟩ : ∃ W2, (W1.alloc (.cells #[.int .i64 tk, .int .i64 (ta : Int), .int .i64 ti, .string Y] 175)).drew = W2 := ⟨_, rfl⟩
  have HD : Hid (Below W1.heap.size W1 W2) := by rw [Hid, ← hW2]; exact (alloc_below _ _).drew
  have HBw2 : Hid (Below w.heap.size w W2) := next_trans HBw.out HD.out
  have hs2 : W2.heap.size = w.heap.size + 3 := by
    have : W2.heap.size = W1.heap.size + 1 := by rw [← hW2]; exact World.size_alloc _ _
    omega
  have x0 : W2.cell? ⟨w.heap.size + 2, 0, none⟩ = some (.int .i64 tk) := by rw [← hW2, ← hs1]; exact box_cell rfl rfl
  have x1 : W2.cell? ⟨w.heap.size + 2, 1, none⟩ = some (.int .i64 (ta : Int)) := by rw [← hW2, ← hs1]; exact box_cell rfl rfl
  have x2 : W2.cell? ⟨w.heap.size + 2, 2, none⟩ = some (.int .i64 ti) := by rw [← hW2, ← hs1]; exact box_cell rfl rfl
  have x3 : W2.cell? ⟨w.heap.size + 2, 3, none⟩ = some (.string Y) := by rw [← hW2, ← hs1]; exact box_cell rfl rfl
  have HB52 : Hid (Box5 W2 w.heap.size (.int .i64 0) (.int .i64 0) (.int .i64 0) (.string ⟨#[]⟩) (.slice none 0 0)) := HB5.out.next HD.out
  have HB22 : Hid (Two W2 (w.heap.size + 1) 27 (.slice none 0 0) (.int .i64 0)) := HB2.out.next HD.out
  have HR2 : Hid (RfAt W2 R L p n) := HR1.out.next HBw2.out
  rw [hW2]
  clear hW2 q0 q1 q2 q3 q4 q5 r0 r1 r2 r3 r4 r5 hs1 HD HBw HB5 HB2 HR1
  obtain ⟨y1, y2, yf⟩ := HR2.out.c12
  have k5 := Hk5.out
  have hR2 : R < W2.heap.size := by omega
  rw [if_pos k5] at HX
  have d5 : (tk == 5) = true := by simpa using k5
  have HX2 : Hid (E = .error (ta, 2)) := HX.symm
  clear HX k5
  go_wp2_with fail
  refine (wat_ex _ _ _).mono ?_
  rintro e w3 ⟨⟨b3, rfl, hB3, hp3⟩, hb3⟩
  have hk3 : ∀ k, k ≠ R → k < w.heap.size + 3 → w3.heap[k]? = W2.heap[k]? := fun k hk hl => by
    rw [hb3.block k (by simp [World.setCell]; omega), Below.heap_setCell _ _ _ _ (by exact hk), Below.heap_setCell _ _ _ _ (by exact hk)]
  obtain ⟨e0, e1, e2, e3, e4, ef⟩ := (HB52.out.keep (hk3 _ (by omega) (by omega))).cells
  have z5 : Two w3 (w.heap.size + 1) 27 (.slice none 0 0) (.int .i64 0) := by unfold Two; rw [hk3 _ (by omega) (by omega)]; exact HB22.out
  have z0 := z5.c0
  have z1 := z5.c1
  have zf0 := z5.f 0
  have zf1 := z5.f 1
  have HT3 : Hid (Tch R w w3) := (((Tch.of_below HBw2.out).trans (Tch.set R _ 1 _)).trans (Tch.set R _ 2 _)).below_of hb3
  have hs3 : w.heap.size + 3 ≤ w3.heap.size := by have := hb3.size; simp [World.setCell] at this; omega
  have hB : w.heap.size + 3 ≤ b3 := by simp [World.setCell] at hB3; omega
  have HP3 : Hid (PtAt w3 b3 ta) := hp3
  clear hp3 hb3 hk3 z5 hB3
  go_wp2
  exact bodyPost_ret (v := .tuple #[zeroNd, .agg #[.slice (some ⟨b3, 0, none⟩) 1 1, .int .i64 2]]) (by simp [results, Tryz.results40, go_sem, zeroNd, e0, e1, e2, e3, e4, z0, z1]) rfl (err_res HX2.out HP3.out (by omega) HT3.out)
set_option linter.unusedVariables false in
set_option maxHeartbeats 8000000 in
set_option maxRecDepth 20000 in
theorem rn_full (f : Nat) (hN : ∀ g, g < f → RNodeC g) (R d n p : Nat) (L : List Tk) (w : World) (hW : ∀ t ∈ L, WfT t.k t.i t.s) (hL : L.length ≤ 100000) (hp : p < L.length) (hf : L.length - p ≤ f) (hn : n ≤ 4096) (hd : d ≤ 32) (hr : RfAt w R L p n) (t : Tk) (ht : L[p]? = some t) (k5 : t.k ≠ 5) (hn4 : n = 4096) :
    Calls Tryz.prog 40 #[.pointer (some ⟨R, 0, none⟩), .int .i64 (d : Int)] w fun e w' => RfRes R L w w' e (rdN f d n (L.drop p)) ∧ Tch R w w' := by
  have HWf : Hid (∀ t ∈ L, WfT t.k t.i t.s) := hW
  have hdr : L.drop p = t :: L.drop (p + 1) := by
    obtain ⟨h1, h2⟩ := List.getElem?_eq_some_iff.1 ht
    rw [List.drop_eq_getElem_cons h1, h2]
  obtain ⟨E, HE⟩ : ∃ E, Hid (rdN f d n (L.drop p) = E) := ⟨_, rfl⟩
  rw [HE.out]
  have HX := HE.out
  rw [hdr, rdN_cons] at HX
  have HRw : R < w.heap.size := hr.lt
  have HR1 : Hid (RfAt w R L p n) := hr
  obtain ⟨b, o, cap, c0, c1, c2, cf, hbR, t0, t1, t2, t3⟩ := hr.get ht
  have hbw : b < w.heap.size := by omega
  have HNd : Hid (∀ g, g < f → RNodeC g) := hN
  have HWt : Hid (WfT t.k t.i t.s) := hW t (List.mem_of_getElem? ht)
  have HDr : Hid (L.drop p = t :: L.drop (p + 1)) := hdr
  obtain ⟨N, HNl⟩ : ∃ N, Hid (L.length = N) := ⟨_, rfl⟩
  rw [HNl.out] at hL hp hf c0
  obtain ⟨tk, ta, ti, ts⟩ := t
  simp only at HX t0 t1 t2 t3 HWt k5
  have Hhn4 : Hid (n = 4096) := hn4
  clear hn4
  obtain ⟨Y, HY⟩ : ∃ Y, Hid (baL ts = Y) := ⟨_, rfl⟩
  rw [HY.out] at t3
  have hpi : (p : Int) < (N : Int) := by omega
  have hp0 : (0 : Int) ≤ (p : Int) := by omega
  clear HE hr hN ht hdr hW
  go_enter Tryz.func40, Tryz.ntmps40
  go_wp2_with fail
  obtain ⟨W1, hW1⟩ : ∃ W1, (w.alloc (.cells #[.int .i64 0, .int .i64 0, .int .i64 0, .string ⟨#[]⟩, .slice none 0 0] 46)).alloc (.cells #[.slice none 0 0, .int .i64 0] 27) = W1 := ⟨_, rfl⟩
  have HBw : Hid (Below w.heap.size w W1) := by rw [Hid, ← hW1]; exact next_trans (alloc_below _ _) (alloc_below _ _)
  have hs1 : W1.heap.size = w.heap.size + 2 := by rw [← hW1]; simp
  have HB5 : Hid (Box5 W1 w.heap.size (.int .i64 0) (.int .i64 0) (.int .i64 0) (.string ⟨#[]⟩) (.slice none 0 0)) := by rw [Hid, ← hW1]; exact (Box5.made w _ _ _ _ _ _).next (alloc_below _ _)
  have HB2 : Hid (Two W1 (w.heap.size + 1) 27 (.slice none 0 0) (.int .i64 0)) := by
    rw [Hid, ← hW1]
    show (Array.push _ _)[w.heap.size + 1]? = _
    rw [Array.getElem?_push, if_pos (by simp)]
  rw [hW1]
  have q0 := keep_cell HBw.out c0
  have q1 := keep_cell HBw.out c1
  have q2 := keep_cell HBw.out t0
  have q3 := keep_cell HBw.out t1
  have q4 := keep_cell HBw.out t2
  have q5 := keep_cell HBw.out t3
  have r0 : (W1.alloc (.cells #[.int .i64 0, .int .i64 0, .int .i64 0, .string ⟨#[]⟩] 175)).cell? ⟨R, 0, none⟩ = _ := alloc_cell q0
  have r1 : (W1.alloc (.cells #[.int .i64 0, .int .i64 0, .int .i64 0, .string ⟨#[]⟩] 175)).cell? ⟨R, 1, none⟩ = _ := alloc_cell q1
  have r2 : (W1.alloc (.cells #[.int .i64 0, .int .i64 0, .int .i64 0, .string ⟨#[]⟩] 175)).cell? ⟨b, o + p * 4, none⟩ = _ := alloc_cell q2
  have r3 : (W1.alloc (.cells #[.int .i64 0, .int .i64 0, .int .i64 0, .string ⟨#[]⟩] 175)).cell? ⟨b, o + p * 4 + 1, none⟩ = _ := alloc_cell q3
  have r4 : (W1.alloc (.cells #[.int .i64 0, .int .i64 0, .int .i64 0, .string ⟨#[]⟩] 175)).cell? ⟨b, o + p * 4 + 2, none⟩ = _ := alloc_cell q4
  have r5 : (W1.alloc (.cells #[.int .i64 0, .int .i64 0, .int .i64 0, .string ⟨#[]⟩] 175)).cell? ⟨b, o + p * 4 + 3, none⟩ = _ := alloc_cell q5
  clear hW1 c0 c1 c2 t0 t1 t2 t3
  go_region
  obtain ⟨W2, hW2⟩ : ∃ W2, (W1.alloc (.cells #[.int .i64 tk, .int .i64 (ta : Int), .int .i64 ti, .string Y] 175)).drew = W2 := ⟨_, rfl⟩
  have HD : Hid (Below W1.heap.size W1 W2) := by rw [Hid, ← hW2]; exact (alloc_below _ _).drew
  have HBw2 : Hid (Below w.heap.size w W2) := next_trans HBw.out HD.out
  have hs2 : W2.heap.size = w.heap.size + 3 := by
    have : W2.heap.size = W1.heap.size + 1 := by rw [← hW2]; exact World.size_alloc _ _
    omega
  have x0 : W2.cell? ⟨w.heap.size + 2, 0, none⟩ = some (.int .i64 tk) := by rw [← hW2, ← hs1]; exact box_cell rfl rfl
  have x1 : W2.cell? ⟨w.heap.size + 2, 1, none⟩ = some (.int .i64 (ta : Int)) := by rw [← hW2, ← hs1]; exact box_cell rfl rfl
  have x2 : W2.cell? ⟨w.heap.size + 2, 2, none⟩ = some (.int .i64 ti) := by rw [← hW2, ← hs1]; exact box_cell rfl rfl
  have x3 : W2.cell? ⟨w.heap.size + 2, 3, none⟩ = some (.string Y) := by rw [← hW2, ← hs1]; exact box_cell rfl rfl
  have HB52 : Hid (Box5 W2 w.heap.size (.int .i64 0) (.int .i64 0) (.int .i64 0) (.string ⟨#[]⟩) (.slice none 0 0)) := HB5.out.next HD.out
  have HB22 : Hid (Two W2 (w.heap.size + 1) 27 (.slice none 0 0) (.int .i64 0)) := HB2.out.next HD.out
  have HR2 : Hid (RfAt W2 R L p n) := HR1.out.next HBw2.out
  rw [hW2]
  clear hW2 q0 q1 q2 q3 q4 q5 r0 r1 r2 r3 r4 r5 hs1 HD HBw HB5 HB2 HR1
  obtain ⟨y1, y2, yf⟩ := HR2.out.c12
  have hn4 := Hhn4.out
  have hR2 : R < W2.heap.size := by omega
  have d5 : (tk == 5) = false := by simpa using k5
  rw [if_neg k5] at HX
  rw [if_pos hn4] at HX
  have d4 : (4096 : Int) < (n : Int) + 1 := by omega
  have HX2 : Hid (E = .error (ta, 4)) := HX.symm
  clear HX k5 hn4
  go_wp2_with fail
  refine (wat_ex _ _ _).mono ?_
  rintro e w3 ⟨⟨b3, rfl, hB3, hp3⟩, hb3⟩
  have hk3 : ∀ k, k ≠ R → k < w.heap.size + 3 → w3.heap[k]? = W2.heap[k]? := fun k hk hl => by
    rw [hb3.block k (by simp [World.setCell]; omega), Below.heap_setCell _ _ _ _ (by exact hk), Below.heap_setCell _ _ _ _ (by exact hk)]
  obtain ⟨e0, e1, e2, e3, e4, ef⟩ := (HB52.out.keep (hk3 _ (by omega) (by omega))).cells
  have z5 : Two w3 (w.heap.size + 1) 27 (.slice none 0 0) (.int .i64 0) := by unfold Two; rw [hk3 _ (by omega) (by omega)]; exact HB22.out
  have z0 := z5.c0
  have z1 := z5.c1
  have zf0 := z5.f 0
  have zf1 := z5.f 1
  have HT3 : Hid (Tch R w w3) := (((Tch.of_below HBw2.out).trans (Tch.set R _ 1 _)).trans (Tch.set R _ 2 _)).below_of hb3
  have hs3 : w.heap.size + 3 ≤ w3.heap.size := by have := hb3.size; simp [World.setCell] at this; omega
  have hB : w.heap.size + 3 ≤ b3 := by simp [World.setCell] at hB3; omega
  have HP3 : Hid (PtAt w3 b3 ta) := hp3
  clear hp3 hb3 hk3 z5 hB3
  go_wp2
  exact bodyPost_ret (v := .tuple #[zeroNd, .agg #[.slice (some ⟨b3, 0, none⟩) 1 1, .int .i64 4]]) (by simp [results, Tryz.results40, go_sem, zeroNd, e0, e1, e2, e3, e4, z0, z1]) rfl (err_res HX2.out HP3.out (by omega) HT3.out)
end Go.Proofs.YtnhbjhdkpbhioaaGreatDoor
namespace Go.Proofs.YtnhbjhdkpbhioaaGreatDoor
open Go.RowKit
set_option linter.unusedVariables false in
set_option maxHeartbeats 8000000 in
set_option maxRecDepth 20000 in
theorem rn_leaf (f : Nat) (hN : ∀ g, g < f → RNodeC g) (R d n p : Nat) (L : List Tk) (w : World) (hW : ∀ t ∈ L, WfT t.k t.i t.s) (hL : L.length ≤ 100000) (hp : p < L.length) (hf : L.length - p ≤ f) (hn : n ≤ 4096) (hd : d ≤ 32) (hr : RfAt w R L p n) (t : Tk) (ht : L[p]? = some t) (k5 : t.k ≠ 5) (hn4 : n ≠ 4096) (k8 : t.k ≠ 8) (k4 : t.k ≠ 4) :
    Calls Tryz.prog 40 #[.pointer (some ⟨R, 0, none⟩), .int .i64 (d : Int)] w fun e w' => RfRes R L w w' e (rdN f d n (L.drop p)) ∧ Tch R w w' := by
  have HWf : Hid (∀ t ∈ L, WfT t.k t.i t.s) := hW
  have hdr : L.drop p = t :: L.drop (p + 1) := by
    obtain ⟨h1, h2⟩ := List.getElem?_eq_some_iff.1 ht
    rw [List.drop_eq_getElem_cons h1, h2]
  obtain ⟨E, HE⟩ : ∃ E, Hid (rdN f d n (L.drop p) = E) := ⟨_, rfl⟩
  rw [HE.out]
  have HX := HE.out
  rw [hdr, rdN_cons] at HX
  have HRw : R < w.heap.size := hr.lt
  have HR1 : Hid (RfAt w R L p n) := hr
  obtain ⟨b, o, cap, c0, c1, c2, cf, hbR, t0, t1, t2, t3⟩ := hr.get ht
  have hbw : b < w.heap.size := by omega
  have HNd : Hid (∀ g, g < f → RNodeC g) := hN
  have HWt : Hid (WfT t.k t.i t.s) := hW t (List.mem_of_getElem? ht)
  have HDr : Hid (L.drop p = t :: L.drop (p + 1)) := hdr
  obtain ⟨N, HNl⟩ : ∃ N, Hid (L.length = N) := ⟨_, rfl⟩
  rw [HNl.out] at hL hp hf c0
  obtain ⟨tk, ta, ti, ts⟩ := t
  simp only at HX t0 t1 t2 t3 HWt k5 k8 k4
  obtain ⟨Y, HY⟩ : ∃ Y, Hid (baL ts = Y) := ⟨_, rfl⟩
  rw [HY.out] at t3
  have hpi : (p : Int) < (N : Int) := by omega
  have hp0 : (0 : Int) ≤ (p : Int) := by omega
  clear HE hr hN ht hdr hW
  go_enter Tryz.func40, Tryz.ntmps40
  go_wp2_with fail
  obtain ⟨W1, hW1⟩ : ∃ W1, (w.alloc (.cells #[.int .i64 0, .int .i64 0, .int .i64 0, .string ⟨#[]⟩, .slice none 0 0] 46)).alloc (.cells #[.slice none 0 0, .int .i64 0] 27) = W1 := ⟨_, rfl⟩
  have HBw : Hid (Below w.heap.size w W1) := by rw [Hid, ← hW1]; exact next_trans (alloc_below _ _) (alloc_below _ _)
  have hs1 : W1.heap.size = w.heap.size + 2 := by rw [← hW1]; simp
  have HB5 : Hid (Box5 W1 w.heap.size (.int .i64 0) (.int .i64 0) (.int .i64 0) (.string ⟨#[]⟩) (.slice none 0 0)) := by rw [Hid, ← hW1]; exact (Box5.made w _ _ _ _ _ _).next (alloc_below _ _)
  have HB2 : Hid (Two W1 (w.heap.size + 1) 27 (.slice none 0 0) (.int .i64 0)) := by
    rw [Hid, ← hW1]
    show (Array.push _ _)[w.heap.size + 1]? = _
    rw [Array.getElem?_push, if_pos (by simp)]
  rw [hW1]
  have q0 := keep_cell HBw.out c0
  have q1 := keep_cell HBw.out c1
  have q2 := keep_cell HBw.out t0
  have q3 := keep_cell HBw.out t1
  have q4 := keep_cell HBw.out t2
  have q5 := keep_cell HBw.out t3
  have r0 : (W1.alloc (.cells #[.int .i64 0, .int .i64 0, .int .i64 0, .string ⟨#[]⟩] 175)).cell? ⟨R, 0, none⟩ = _ := alloc_cell q0
  have r1 : (W1.alloc (.cells #[.int .i64 0, .int .i64 0, .int .i64 0, .string ⟨#[]⟩] 175)).cell? ⟨R, 1, none⟩ = _ := alloc_cell q1
  have r2 : (W1.alloc (.cells #[.int .i64 0, .int .i64 0, .int .i64 0, .string ⟨#[]⟩] 175)).cell? ⟨b, o + p * 4, none⟩ = _ := alloc_cell q2
  have r3 : (W1.alloc (.cells #[.int .i64 0, .int .i64 0, .int .i64 0, .string ⟨#[]⟩] 175)).cell? ⟨b, o + p * 4 + 1, none⟩ = _ := alloc_cell q3
  have r4 : (W1.alloc (.cells #[.int .i64 0, .int .i64 0, .int .i64 0, .string ⟨#[]⟩] 175)).cell? ⟨b, o + p * 4 + 2, none⟩ = _ := alloc_cell q4
  have r5 : (W1.alloc (.cells #[.int .i64 0, .int .i64 0, .int .i64 0, .string ⟨#[]⟩] 175)).cell? ⟨b, o + p * 4 + 3, none⟩ = _ := alloc_cell q5
  clear hW1 c0 c1 c2 t0 t1 t2 t3
  go_region
  obtain ⟨W2, hW2⟩ : ∃ W2, (W1.alloc (.cells #[.int .i64 tk, .int .i64 (ta : Int), .int .i64 ti, .string Y] 175)).drew = W2 := ⟨_, rfl⟩
  have HD : Hid (Below W1.heap.size W1 W2) := by rw [Hid, ← hW2]; exact (alloc_below _ _).drew
  have HBw2 : Hid (Below w.heap.size w W2) := next_trans HBw.out HD.out
  have hs2 : W2.heap.size = w.heap.size + 3 := by
    have : W2.heap.size = W1.heap.size + 1 := by rw [← hW2]; exact World.size_alloc _ _
    omega
  have x0 : W2.cell? ⟨w.heap.size + 2, 0, none⟩ = some (.int .i64 tk) := by rw [← hW2, ← hs1]; exact box_cell rfl rfl
  have x1 : W2.cell? ⟨w.heap.size + 2, 1, none⟩ = some (.int .i64 (ta : Int)) := by rw [← hW2, ← hs1]; exact box_cell rfl rfl
  have x2 : W2.cell? ⟨w.heap.size + 2, 2, none⟩ = some (.int .i64 ti) := by rw [← hW2, ← hs1]; exact box_cell rfl rfl
  have x3 : W2.cell? ⟨w.heap.size + 2, 3, none⟩ = some (.string Y) := by rw [← hW2, ← hs1]; exact box_cell rfl rfl
  have HB52 : Hid (Box5 W2 w.heap.size (.int .i64 0) (.int .i64 0) (.int .i64 0) (.string ⟨#[]⟩) (.slice none 0 0)) := HB5.out.next HD.out
  have HB22 : Hid (Two W2 (w.heap.size + 1) 27 (.slice none 0 0) (.int .i64 0)) := HB2.out.next HD.out
  have HR2 : Hid (RfAt W2 R L p n) := HR1.out.next HBw2.out
  rw [hW2]
  clear hW2 q0 q1 q2 q3 q4 q5 r0 r1 r2 r3 r4 r5 hs1 HD HBw HB5 HB2 HR1
  obtain ⟨y1, y2, yf⟩ := HR2.out.c12
  have hR2 : R < W2.heap.size := by omega
  have d5 : (tk == 5) = false := by simpa using k5
  rw [if_neg k5] at HX
  have hn5 : ¬ (4096 : Int) < (n : Int) + 1 := by omega
  rw [if_neg hn4] at HX
  rw [if_neg k4, if_neg k8] at HX
  have d8 : (tk == 8) = false := by simpa using k8
  have d4 : (tk == 4) = false := by simpa using k4
  have HX2 : Hid (E = .ok (leafN ⟨tk, ta, ti, ts⟩, n + 1, L.drop (p + 1))) := HX.symm
  clear HX k5 k8 k4
  obtain ⟨e0, e1, e2, e3, e4, ef⟩ := HB52.out.cells
  have z0 := HB22.out.c0
  have z1 := HB22.out.c1
  have zf0 := HB22.out.f 0
  have zf1 := HB22.out.f 1
  have hq1 : w.heap.size ≠ R := by omega
  have hq2 : w.heap.size + 1 ≠ R := by omega
  have hq3 : w.heap.size + 2 ≠ R := by omega
  go_wp2
  have hA : RfAt ((W2.setCell ⟨R, 1, none⟩ (.int .i64 ((p : Int) + 1))).setCell ⟨R, 2, none⟩ (.int .i64 ((n : Int) + 1))) R L (p + 1) (n + 1) :=
    (HR2.out.setp (p + 1) (by rw [HNl.out]; omega) _ (by omega)).setc (n + 1) _ (by omega)
  have hT : Tch R w ((W2.setCell ⟨R, 1, none⟩ (.int .i64 ((p : Int) + 1))).setCell ⟨R, 2, none⟩ (.int .i64 ((n : Int) + 1))) := ((Tch.of_below HBw2.out).trans (Tch.set R _ 1 _)).trans (Tch.set R _ 2 _)
  refine bodyPost_ret (v := .tuple #[.agg #[.int .i64 (tk), .int .i64 ((ta : Int)), .int .i64 (ti), .string (Y), .slice none 0 0], .agg #[.slice none 0 0, .int .i64 0]]) (by simp [results, Tryz.results40, go_sem, e0, e1, e2, e3, e4, z0, z1, hs2]) rfl ⟨?_, (set7_tch _ _ _ _ _ _ _ hT (Nat.le_refl _)).below_of (alloc_below _ _)⟩
  rw [HX2.out]
  exact ⟨⟨⟨tk, ta, ti, ts, none, 0, 0⟩, by rw [← HY.out]; rfl, NcIs.leaf _ _ _ _ _ _⟩, p + 1, rfl, (hA.keep fun k hk => set7_block _ _ _ _ _ _ _ (by omega) (by omega)).next (alloc_below _ _)⟩
end Go.Proofs.YtnhbjhdkpbhioaaGreatDoor
