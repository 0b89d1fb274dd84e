/- The contract of Assert: what is there, what there is no room for, what is new. -/
import Derived.Test.YtgjnnahflaaagaaDoorWmAdd2
namespace Go.Proofs.YtgjnnahflaaagaaDoor
open Go.RowKit Go.Maps

/-- Values that a method is handed. -/
structure ArgV (w : World) (P : Nat → Prop) (t : ByteArray) (ao : Option Addr) (cap N : Nat) (L : List Val) : Prop where
  n : L.length = N
  v : IsVals w ao L
  c : ao = none → N = 0 ∧ cap = 0
  off : L ≠ [] → ∀ x, ao = some x → ¬ P x.block
  m : N ≤ 50
  s : t.size ≤ 1000
  ok : ∀ v ∈ L, v.ok
theorem ArgV.next {w w' : World} {P : Nat → Prop} {t : ByteArray} {ao : Option Addr} {cap N : Nat} {L : List Val} (h : ArgV w P t ao cap N L) (hb : Below w.heap.size w w') : ArgV w' P t ao cap N L :=
  ⟨h.n, h.v.next hb, h.c, h.off, h.m, h.s, h.ok⟩

set_option maxHeartbeats 1000000 in
theorem assert_has (w : World) (B b last : Nat) (v m : Value) (F : List Ft) (M : Mem w B b v m last F) (t : ByteArray) (ao : Option Addr) (cap N : Nat) (L : List Val) (A : ArgV w (Foot b v m) t ao cap N L) (I : Nat) (hI : idOf F (keyB t L) = I) (h0 : I ≠ 0) (ht : TabW w) :
    Calls Tryd.prog 12 #[.pointer (some ⟨b, 0, none⟩), .string t, .slice ao N cap] w fun e w' => e = .returned (.tuple #[.int .i64 I, .bool false, .int .i64 0]) ∧ Below w.heap.size w w' := by
  have hf := find_any w B b last v m F M t ao cap N L A.n A.v A.c A.m A.s A.ok ht
  rw [hI, decide_eq_true h0] at hf
  clear A M
  go_enter Tryd.func12, Tryd.ntmps12
  go_wp2_with fail
  refine hf.mono ?_
  rintro e w1 ⟨rfl, hb⟩
  go_wp2
  go_ret3
  exact ⟨rfl, hb⟩

set_option maxHeartbeats 1000000 in
theorem assert_full (w : World) (B b last : Nat) (v m : Value) (F : List Ft) (M : Mem w B b v m last F) (t : ByteArray) (ao : Option Addr) (cap N : Nat) (L : List Val) (A : ArgV w (Foot b v m) t ao cap N L) (hI : idOf F (keyB t L) = 0) (hF : F.length = 1000) (ht : TabW w) :
    Calls Tryd.prog 12 #[.pointer (some ⟨b, 0, none⟩), .string t, .slice ao N cap] w fun e w' => e = .returned (.tuple #[.int .i64 0, .bool false, .int .i64 10]) ∧ Below w.heap.size w w' := by
  have hf := find_any w B b last v m F M t ao cap N L A.n A.v A.c A.m A.s A.ok ht
  rw [hI] at hf
  have HC : Hid (∀ w', Below w.heap.size w w' → w'.cell? ⟨b, 0, none⟩ = some v) := fun w' hb => (M.next hb).box.cell 0
  obtain ⟨fo, fcap, rfl, _, _⟩ := M.rw.slice
  rw [hF] at HC
  clear A M
  go_enter Tryd.func12, Tryd.ntmps12
  go_wp2_with fail
  refine hf.mono ?_
  rintro e w1 ⟨rfl, hb⟩
  have c0 := HC.out w1 hb
  clear HC
  go_wp2
  go_ret3
  exact ⟨rfl, hb⟩

set_option maxHeartbeats 2000000 in
theorem assert_new (w : World) (B b last : Nat) (v m : Value) (F : List Ft) (M : Mem w B b v m last F) (t : ByteArray) (ao : Option Addr) (cap N : Nat) (L : List Val) (A : ArgV w (Foot b v m) t ao cap N L) (hI : idOf F (keyB t L) = 0) (hF : F.length < 1000) (hlast : last < 5000) (hB0 : 0 < B) (ht : TabW w) :
    Calls Tryd.prog 12 #[.pointer (some ⟨b, 0, none⟩), .string t, .slice ao N cap] w fun e w' => e = .returned (.tuple #[.int .i64 (last + 1 : Nat), .bool true, .int .i64 0]) ∧ ∃ v' m' a' c', Left w w' B b v m v' m' (last + 1) (F ++ [⟨last + 1, t, L, a', c'⟩]) := by
  have hf := find_any w B b last v m F M t ao cap N L A.n A.v A.c A.m A.s A.ok ht
  rw [hI] at hf
  have HC : Hid (∀ w', Below w.heap.size w w' → w'.cell? ⟨b, 0, none⟩ = some v) := fun w' hb => (M.next hb).box.cell 0
  have HA : Hid (∀ w', Below w.heap.size w w' → Calls Tryd.prog 27 #[.pointer (some ⟨b, 0, none⟩), .string t, .slice ao N cap] w' fun e w2 => e = .returned (.int .i64 (last + 1 : Nat)) ∧ ∃ v' m' a' c', Left w w2 B b v m v' m' (last + 1) (F ++ [⟨last + 1, t, L, a', c'⟩])) := by
    intro w' hb
    refine (add_any w' B b last v m F (M.next hb) t ao cap N L A.n (A.v.next hb) A.c A.off A.m A.s A.ok hI hlast hB0 (tab_next ht hb)).mono ?_
    rintro e w2 ⟨he, v', m', a', c', hL⟩
    refine ⟨he, v', m', a', c', hL.mem, (Touch.ofBelow hb _).trans hL.tch (fun _ h => .inl h), fun k hk => ?_⟩
    rcases hL.foot k hk with h | h
    · exact .inl h
    · exact .inr (Nat.le_trans hb.size h)
  obtain ⟨fo, fcap, rfl, _, _⟩ := M.rw.slice
  obtain ⟨FN, hFN⟩ : ∃ FN, F.length = FN := ⟨_, rfl⟩
  rw [hFN] at HC hF
  have d : decide ((1000 : Int) ≤ (FN : Int)) = false := decide_eq_false (by omega)
  clear A M hFN
  go_enter Tryd.func12, Tryd.ntmps12
  go_wp2_with fail
  refine hf.mono ?_
  rintro e w1 ⟨rfl, hb⟩
  have c0 := HC.out w1 hb
  clear HC
  go_wp2_with fail
  refine (HA.out _ hb).mono ?_
  rintro e w2 ⟨rfl, v', m', a', c', hL⟩
  have HL : Hid (∃ v' m' a' c', Left w w2 B b (.slice fo F.length fcap) m v' m' (last + 1) (F ++ [⟨last + 1, t, L, a', c'⟩])) := ⟨v', m', a', c', hL⟩
  clear hL HA hf
  go_wp2
  go_ret3
  exact ⟨rfl, HL.out⟩
end Go.Proofs.YtgjnnahflaaagaaDoor
