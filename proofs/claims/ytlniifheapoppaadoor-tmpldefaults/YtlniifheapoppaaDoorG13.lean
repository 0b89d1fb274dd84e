/- The reference's Count, Same; the law's places. -/
import Derived.Deep.RegionHeld3
import Derived.Deep.QuietTactic
import Derived.BigQuiet
import Derived.Deep.RegionLaw
import Derived.Test.YtlniifheapoppaaDoorG9
import Derived.Test.YtlniifheapoppaaDoorG10
import Derived.Test.YtlniifheapoppaaDoorG12
namespace Go.Proofs.YtlniifheapoppaaDoor
open Go.RowKit

/-- A node's value, its kids behind an address. -/
def ndV (x : Nd) (ao : Option Addr) (cap : Nat) : Value := .agg #[.int .i64 (x.k), .int .i64 ((x.a : Int)), .int .i64 (x.i), .string (baL x.s), .slice ao x.l.length cap]
theorem take_nd {L : List Nd} {k : Nat} {t : Nd} (h : L[k]? = some t) : L.take (k + 1) = L.take k ++ [t] := by
  rw [List.take_add_one, h]; rfl
theorem cnt_step {L : List Nd} {k : Nat} {t : Nd} (h : L[k]? = some t) : cntL (L.take (k + 1)) = cntL (L.take k) + cntN t := by
  rw [take_nd h, cntL_app, cntL_cons, cntL_nil]; omega
theorem cnt_take (L : List Nd) (k : Nat) : cntL (L.take k) ≤ cntL L := by
  have : cntL (L.take k ++ L.drop k) = cntL L := by rw [List.take_append_drop]
  rw [cntL_app] at this
  omega

def eqN (x y : Nd) : Prop := x = y

end Go.Proofs.YtlniifheapoppaaDoor
/- The law's Of: a node as the reference's. -/
namespace Go.Proofs.YtlniifheapoppaaDoor
open Go.RowKit

theorem alloc_froz {w : World} {p : Addr} {v : Value} {b : Bool} {o : Obj} (h : w.cell? p = some v) (hf : w.frozen? p = b) : (w.alloc o).frozen? p = b := keep_froz (alloc_below _ _) h hf
end Go.Proofs.YtlniifheapoppaaDoor
/- The reference's Text of a node. -/
namespace Go.Proofs.YtlniifheapoppaaDoor
open Go.RowKit

theorem baL_app (a b : List UInt8) : baL a ++ baL b = baL (a ++ b) := by
  apply ByteArray.ext
  show (baL a ++ baL b).data = (a ++ b).toArray
  rw [← Array.toList_inj, ba_app]; rfl
theorem txtB_step {l : List Nd} {j : Nat} {y : Nd} (h : l[j]? = some y) (hj : 0 < j) : txtB (l.take (j + 1)) = txtB (l.take j) ++ 32 :: txtN y := by
  rw [take_nd h]
  cases hl : l.take j with
  | nil =>
    have : (l.take j).length = j := by rw [List.length_take]; have := (List.getElem?_eq_some_iff.1 h).1; omega
    rw [hl] at this
    simp at this
    omega
  | cons x r =>
    rw [List.cons_append, txtB_cons, txtB_cons, txtR_app, txtR_cons, txtR_nil]
    simp
theorem txtB_step0 {l : List Nd} {y : Nd} (h : l[0]? = some y) : txtB (l.take 1) = txtN y := by
  rw [take_nd h, List.take_zero, List.nil_append, txtB_cons, txtR_nil, List.append_nil]
theorem txtB_take_le (l : List Nd) (j : Nat) : (txtB (l.take j)).length ≤ (txtB l).length := by
  have : (txtR (l.take j ++ l.drop j)).length = (txtR l).length := by rw [List.take_append_drop]
  rw [txtR_app, List.length_append] at this
  unfold txtB
  rw [List.length_drop, List.length_drop]
  omega
theorem sum_list {k : Int} {a : Nat} {i : Int} {s : List UInt8} {l : List Nd} (h : k = 0 ∨ k = 8) : sumC (flL l) ≤ sumC (flN ⟨k, a, i, s, l⟩) := by
  rw [flN_mk]
  rcases h with rfl | rfl
  · rw [if_pos rfl, sumC_cons, sumC_app]; omega
  · rw [if_neg (by decide), if_pos rfl, sumC_cons]; omega

end Go.Proofs.YtlniifheapoppaaDoor
