import Derived.Deep.RegionHeldLaw
import Derived.Deep.RegionHeld3
import Derived.Test.YtnhbjhdkpbhioaaGreatDoorG26
import Derived.Test.YtnhbjhdkpbhioaaGreatDoorG25
namespace Go.Proofs.YtnhbjhdkpbhioaaGreatDoor
open Go.RowKit
theorem rsym5_any (Y : ByteArray) (w : World) :
    Calls Tryz.prog 62 #[.string Y] w fun e w' => e = .returned (.agg #[.int .i64 (2), .int .i64 (0), .int .i64 (0), .string (Y), .slice none 0 0]) ∧ Below w.heap.size w w' := by
  go_enter Tryz.func62, Tryz.ntmps62
  go_wp2
  exact bodyPost_ret (v := .agg #[.int .i64 (2), .int .i64 (0), .int .i64 (0), .string (Y), .slice none 0 0]) (by simp [results, Tryz.results62, go_sem]) rfl ⟨rfl, alloc_below _ _⟩
theorem rl5_any (ao : Option Addr) (n cap : Nat) (w : World) :
    Calls Tryz.prog 64 #[.slice ao n cap] w fun e w' => e = .returned (.agg #[.int .i64 (0), .int .i64 (0), .int .i64 (0), .string (⟨#[]⟩), .slice ao n cap]) ∧ Below w.heap.size w w' := by
  go_enter Tryz.func64, Tryz.ntmps64
  go_wp2
  exact bodyPost_ret (v := .agg #[.int .i64 (0), .int .i64 (0), .int .i64 (0), .string (⟨#[]⟩), .slice ao n cap]) (by simp [results, Tryz.results64, go_sem]) rfl ⟨rfl, alloc_below _ _⟩
theorem rof5_any (k i : Int) (s : ByteArray) (w : World) :
    Calls Tryz.prog 63 #[.agg #[.int .i64 (k), .int .i64 (i), .string (s)]] w fun e w' => e = .returned (.agg #[.int .i64 (k), .int .i64 (0), .int .i64 (i), .string (s), .slice none 0 0]) ∧ Below w.heap.size w w' := by
  go_enter Tryz.func63, Tryz.ntmps63
  go_wp2
  exact bodyPost_ret (v := .agg #[.int .i64 (k), .int .i64 (0), .int .i64 (i), .string (s), .slice none 0 0]) (by simp [results, Tryz.results63, go_sem]) rfl ⟨rfl, next_trans (alloc_below _ _) (alloc_below _ _)⟩
structure RnW (w wr : World) (tn : ByteArray) (ao : Option Addr) (M cap : Nat) (v : Value) (cs : List Nc) (xs : List Nd) : Prop where
  bel : Below w.heap.size w wr
  x : Bx wr w.heap.size #[.string tn, .slice ao M cap]
  r : Bx wr (w.heap.size + 1) #[.int .i64 0, .int .i64 0, .int .i64 0, .string ⟨#[]⟩, .slice none 0 0]
  own : wr.ownsRow (w.heap.size + 2) 46 5 v cs.length (ncsC cs)
  kids : NcsIs wr (offB (w.heap.size + 2) v) cs xs
theorem RnW.next {w wr w' : World} {tn : ByteArray} {ao : Option Addr} {M cap : Nat} {v : Value} {cs : List Nc} {xs : List Nd} (h : RnW w wr tn ao M cap v cs xs) (hb : Below wr.heap.size wr w') : RnW w w' tn ao M cap v cs xs :=
  ⟨next_trans h.bel hb, h.x.next hb, h.r.next hb, own_next h.own hb, h.kids.next hb⟩
end Go.Proofs.YtnhbjhdkpbhioaaGreatDoor
namespace Go.Proofs.YtnhbjhdkpbhioaaGreatDoor
open Go.RowKit
structure OfW (T : Nat) (w wr : World) (tn : ByteArray) (ao : Option Addr) (M cap : Nat) (v : Value) (xs : List Sl) : Prop where
  bel : Below w.heap.size w wr
  x : Bx wr w.heap.size #[.string tn, .slice ao M cap]
  r : Bx wr (w.heap.size + 1) #[.string ⟨#[]⟩, .slice none 0 0]
  t : Bx wr (w.heap.size + 2) #[.string tn, v]
  own : wr.ownsRow (w.heap.size + 3) T 4 v xs.length (slsC xs)
end Go.Proofs.YtnhbjhdkpbhioaaGreatDoor
