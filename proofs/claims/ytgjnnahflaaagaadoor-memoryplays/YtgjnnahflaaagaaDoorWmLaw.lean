/- A memory in a law's world; its methods' contracts said of it. -/
import Derived.Test.YtgjnnahflaaagaaDoorWmSame
import Derived.Test.YtgjnnahflaaagaaDoorWmTwin
import Derived.Test.YtgjnnahflaaagaaDoorWmRetr2
namespace Go.Proofs.YtgjnnahflaaagaaDoor
open Go.RowKit Go.Maps

theorem Good.ge {F : List Ft} {last : Nat} (h : Good F last) : ∀ (k : Nat) (f : Ft), F[k]? = some f → k + 1 ≤ f.id := by
  intro k
  induction k with
  | zero => intro f hf; exact (h.pos f (List.mem_of_getElem? hf)).1
  | succ k ih =>
    intro f hf
    have hlt := (List.getElem?_eq_some_iff.1 hf).1
    have h2 := ih F[k] (List.getElem?_eq_getElem (by omega))
    have h3 := h.lt (List.getElem?_eq_getElem (show k < F.length by omega)) hf (by omega)
    omega
structure LW (w wr : World) (b : Nat) (v m : Value) (last : Nat) (F : List Ft) : Prop where
  bel : Below w.heap.size w wr
  mem : Mem wr w.heap.size b v m last F
  tab : TabW w
theorem LW.next {w wr w' : World} {b last : Nat} {v m : Value} {F : List Ft} (h : LW w wr b v m last F) (hb : Below wr.heap.size wr w') : LW w w' b v m last F :=
  ⟨next_trans h.bel hb, h.mem.next hb, h.tab⟩
theorem LW.tabr {w wr : World} {b last : Nat} {v m : Value} {F : List Ft} (h : LW w wr b v m last F) : TabW wr := tab_next h.tab h.bel
/-- What is of no kind that the memory writes is kept. -/
def Oth (wr w' : World) : Prop := ∀ k T, Kd wr k T → T ≠ 61 → T ≠ 44 → w'.heap[k]? = wr.heap[k]?
theorem Oth.below {wr w' : World} (h : Below wr.heap.size wr w') : Oth wr w' := fun _ _ hk _ _ => h.block _ hk.lt
theorem Oth.trans {a b c : World} (h : Oth a b) (k2 : Oth b c) : Oth a c := fun q T hq h1 h2 => (k2 q T (hq.keep (h q T hq h1 h2)) h1 h2).trans (h q T hq h1 h2)
theorem Oth.rw {wr w' : World} {T B : Nat} {v : Value} {R : List Ft} (h : Oth wr w') (hr : Rw T wr B v R) (h1 : T ≠ 61) (h2 : T ≠ 44) : Rw T w' B v R :=
  hr.keep (fun k hk => h k T (Kd.own hr.row hk) h1 h2) (fun k hk => h k _ hk (by decide) (by decide))
theorem LW.left {w wr w' : World} {b last l' : Nat} {v m v' m' : Value} {F F' : List Ft} (h : LW w wr b v m last F) (hl : Left wr w' w.heap.size b v m v' m' l' F') : LW w w' b v' m' l' F' ∧ Oth wr w' ∧ wr.heap.size ≤ w'.heap.size :=
  ⟨⟨h.bel.trans (hl.tch.below h.bel.size fun _ hk => (h.mem.foot hk).1), hl.mem, h.tab⟩, fun _ _ hk h1 h2 => hl.tch.kd h.mem hk h1 h2, hl.tch.size⟩
theorem LW.pos {w wr : World} {b last : Nat} {v m : Value} {F : List Ft} (h : LW w wr b v m last F) : 0 < w.heap.size := tab_pos h.tab
theorem LW.len {w wr : World} {b last : Nat} {v m : Value} {F : List Ft} (h : LW w wr b v m last F) : F.length ≤ last := by
  have h1 := h.mem.good.ge
  rcases Nat.eq_zero_or_pos F.length with e | e
  · omega
  · have h2 := h1 (F.length - 1) F[F.length - 1] (List.getElem?_eq_getElem (by omega))
    have h3 := (h.mem.good.pos F[F.length - 1] (List.getElem_mem _)).2
    omega
theorem LW.small {w wr : World} {b last : Nat} {v m : Value} {F : List Ft} (h : LW w wr b v m last F) : F.length ≤ 5000 := Nat.le_trans h.len h.mem.small

theorem lw_new (w wr : World) (hb : Below w.heap.size w wr) (ht : TabW w) :
    Calls Tryd.prog 8 #[] wr fun e w' => ∃ b v m, e = .returned (.pointer (some ⟨b, 0, none⟩)) ∧ LW w w' b v m 0 [] ∧ Below wr.heap.size wr w' := by
  refine (new_any wr).mono ?_
  rintro e w' ⟨b, rfl, he, M, hb2⟩
  exact ⟨_, _, _, he, ⟨next_trans hb hb2, M.base hb.size, ht⟩, hb2⟩
theorem LW.assert_new {w wr : World} {b last : Nat} {v m : Value} {F : List Ft} (h : LW w wr b v m last F) {t : ByteArray} {ao : Option Addr} {cap N : Nat} {L : List Val} (A : ArgV wr (Foot b v m) t ao cap N L) (hI : idOf F (keyB t L) = 0) (hF : F.length < 1000) (hlast : last < 5000) :
    Calls Tryd.prog 12 #[.pointer (some ⟨b, 0, none⟩), .string t, .slice ao N cap] wr fun e w' => e = .returned (.tuple #[.int .i64 (last + 1 : Nat), .bool true, .int .i64 0]) ∧ ∃ v' m' a' c', LW w w' b v' m' (last + 1) (F ++ [⟨last + 1, t, L, a', c'⟩]) ∧ Oth wr w' ∧ wr.heap.size ≤ w'.heap.size := by
  refine (Go.Proofs.YtgjnnahflaaagaaDoor.assert_new wr w.heap.size b last v m F h.mem t ao cap N L A hI hF hlast h.pos h.tabr).mono ?_
  rintro e w' ⟨he, v', m', a', c', hl⟩
  exact ⟨he, v', m', a', c', h.left hl⟩
theorem LW.assert_has {w wr : World} {b last : Nat} {v m : Value} {F : List Ft} (h : LW w wr b v m last F) {t : ByteArray} {ao : Option Addr} {cap N : Nat} {L : List Val} (A : ArgV wr (Foot b v m) t ao cap N L) (I : Nat) (hI : idOf F (keyB t L) = I) (h0 : I ≠ 0) :
    Calls Tryd.prog 12 #[.pointer (some ⟨b, 0, none⟩), .string t, .slice ao N cap] wr fun e w' => e = .returned (.tuple #[.int .i64 I, .bool false, .int .i64 0]) ∧ LW w w' b v m last F ∧ Below wr.heap.size wr w' := by
  refine (Go.Proofs.YtgjnnahflaaagaaDoor.assert_has wr w.heap.size b last v m F h.mem t ao cap N L A I hI h0 h.tabr).mono ?_
  rintro e w' ⟨he, hb⟩
  exact ⟨he, h.next hb, hb⟩
theorem LW.assert_full {w wr : World} {b last : Nat} {v m : Value} {F : List Ft} (h : LW w wr b v m last F) {t : ByteArray} {ao : Option Addr} {cap N : Nat} {L : List Val} (A : ArgV wr (Foot b v m) t ao cap N L) (hI : idOf F (keyB t L) = 0) (hF : F.length = 1000) :
    Calls Tryd.prog 12 #[.pointer (some ⟨b, 0, none⟩), .string t, .slice ao N cap] wr fun e w' => e = .returned (.tuple #[.int .i64 0, .bool false, .int .i64 10]) ∧ LW w w' b v m last F ∧ Below wr.heap.size wr w' := by
  refine (Go.Proofs.YtgjnnahflaaagaaDoor.assert_full wr w.heap.size b last v m F h.mem t ao cap N L A hI hF h.tabr).mono ?_
  rintro e w' ⟨he, hb⟩
  exact ⟨he, h.next hb, hb⟩
theorem LW.find {w wr : World} {b last : Nat} {v m : Value} {F : List Ft} (h : LW w wr b v m last F) {t : ByteArray} {ao : Option Addr} {cap N : Nat} {L : List Val} (A : ArgV wr (Foot b v m) t ao cap N L) :
    Calls Tryd.prog 11 #[.pointer (some ⟨b, 0, none⟩), .string t, .slice ao N cap] wr fun e w' => e = .returned (.tuple #[.int .i64 (idOf F (keyB t L)), .bool (decide (idOf F (keyB t L) ≠ 0))]) ∧ LW w w' b v m last F ∧ Below wr.heap.size wr w' := by
  refine (find_any wr w.heap.size b last v m F h.mem t ao cap N L A.n A.v A.c A.m A.s A.ok h.tabr).mono ?_
  rintro e w' ⟨he, hb⟩
  exact ⟨he, h.next hb, hb⟩
theorem LW.retract_yes {w wr : World} {b last p : Nat} {v m : Value} {F : List Ft} {f : Ft} (h : LW w wr b v m last F) (hf : F[p]? = some f) (x : Int) (hx : (f.id : Int) = x) :
    Calls Tryd.prog 13 #[.pointer (some ⟨b, 0, none⟩), .int .i64 x] wr fun e w' => e = .returned (.bool true) ∧ ∃ v', LW w w' b v' m last (F.eraseIdx p) ∧ Oth wr w' ∧ wr.heap.size ≤ w'.heap.size := by
  refine (Go.Proofs.YtgjnnahflaaagaaDoor.retract_yes wr w.heap.size b last p v m F f h.mem hf h.small x hx h.tabr).mono ?_
  rintro e w' ⟨he, v', hl, _⟩
  exact ⟨he, v', h.left hl⟩
theorem LW.retract_no {w wr : World} {b last : Nat} {v m : Value} {F : List Ft} (h : LW w wr b v m last F) (x : Int) (hx : ∀ f ∈ F, (f.id : Int) ≠ x) :
    Calls Tryd.prog 13 #[.pointer (some ⟨b, 0, none⟩), .int .i64 x] wr fun e w' => e = .returned (.bool false) ∧ LW w w' b v m last F ∧ Below wr.heap.size wr w' := by
  refine (Go.Proofs.YtgjnnahflaaagaaDoor.retract_no wr w.heap.size b last v m F h.mem h.small x hx).mono ?_
  rintro e w' ⟨he, hb⟩
  exact ⟨he, h.next hb, hb⟩
/-- A literal row of one number, as it is handed on. -/
theorem LW.lit {w wr : World} {b last : Nat} {v m : Value} {F : List Ft} (h : LW w wr b v m last F) (t : ByteArray) (i : Int) (hi : inB i = true) (hs : t.size ≤ 1000) :
    LW w (wr.alloc (.cells #[.int .i64 1, .int .i64 i, .string ⟨#[]⟩] 32)) b v m last F ∧ ArgV (wr.alloc (.cells #[.int .i64 1, .int .i64 i, .string ⟨#[]⟩] 32)) (Foot b v m) t (some ⟨wr.heap.size, 0, none⟩) 1 1 [⟨1, i, ⟨#[]⟩⟩] := by
  refine ⟨h.next (alloc_below _ _), ⟨rfl, ?_, (fun e => by cases e), ?_, by omega, hs, ?_⟩⟩
  · intro j u hj
    match j, hj with
    | 0, hj =>
      simp at hj
      subst hj
      exact ⟨wr.heap.size, 0, rfl, box0 rfl, box0 rfl, box0 rfl⟩
  · intro _ x hx
    obtain rfl := Option.some.inj hx
    intro hf
    have := (h.mem.foot hf).2
    simp at this
  · intro u hu
    simp at hu
    subst hu
    exact ⟨show inB 1 = true by decide, hi, show (⟨#[]⟩ : ByteArray).size ≤ 100000 by decide⟩
theorem ArgV.nilv (w : World) (P : Nat → Prop) (t : ByteArray) (hs : t.size ≤ 1000) : ArgV w P t none 0 0 [] :=
  ⟨rfl, IsVals.nil _ _, fun _ => ⟨rfl, rfl⟩, fun h => absurd rfl h, by omega, hs, fun v h => by simp at h⟩
end Go.Proofs.YtgjnnahflaaagaaDoor
