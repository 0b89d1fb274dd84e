/- Read, as the laws call it: the reference's; Tells. -/
import Derived.Test.YtlniifheapoppaaGreatDoorG20
import Derived.Test.YtlniifheapoppaaGreatDoorG12
import Derived.Test.YtlniifheapoppaaGreatDoorG19
namespace Go.Proofs.YtlniifheapoppaaGreatDoor
open Go.RowKit

theorem rread_yes5 (ao : Option Addr) (n cap : Nat) (l : List UInt8) (L : List Nd) (w : World) (hl : l.length = n) (h : IsB w ao l) (hn : n ≤ 65536) (hc : n ≤ cap) (a : Nat) (hs : readQ l = ⟨L, a, 0⟩) :
    Calls Tryz.prog 7 #[.slice ao n cap] w fun e w' => (∃ ao cap, e = .returned (.tuple #[.slice ao L.length cap, .agg #[.slice none 0 0, .int .i64 0]]) ∧ L.length ≤ cap ∧ IsNds w' anyB ao L) ∧ Below w.heap.size w w' := by
  refine (rread_any ao n cap l w hl h hn hc).mono ?_
  rintro e w1 ⟨hb, hr⟩
  rw [hs] at hr
  rcases hr with ⟨_, ao, cap, h1, h2, h3⟩ | ⟨hx, _⟩
  · exact ⟨⟨ao, cap, h1, h2, h3.any⟩, hb⟩
  · exact absurd rfl hx
theorem rread_no5 (ao : Option Addr) (n cap : Nat) (l : List UInt8) (R : OutN) (w : World) (hl : l.length = n) (h : IsB w ao l) (hn : n ≤ 65536) (hc : n ≤ cap) (hs : readQ l = R) (hf : R.e ≠ 0) :
    Calls Tryz.prog 7 #[.slice ao n cap] w fun e w' => (∃ b, e = .returned (.tuple #[.slice none 0 0, .agg #[.slice (some ⟨b, 0, none⟩) 1 1, .int .i64 R.e]]) ∧ PtAt w' b (R.a : Int)) ∧ Below w.heap.size w w' := by
  refine (rread_any ao n cap l w hl h hn hc).mono ?_
  rintro e w1 ⟨hb, hr⟩
  rw [hs] at hr
  rcases hr with ⟨hx, _⟩ | ⟨_, b, _, h1, h2⟩
  · exact absurd hx hf
  · exact ⟨⟨b, h1, h2⟩, hb⟩
/-- What the laws ask of a fault: Tells, with one part. -/
theorem tells_one (B b : Nat) (a n : Int) (w : World) (hC : Chain w n [([99, 104, 97, 114], a)] (.iface 104 (.pointer (some ⟨B, 0, none⟩)))) (hP : PtAt w b a) (h4 : Lib4 w) (h1 : 1 ≤ n) (h2 : n ≤ 11) (ha : inB a = true) :
    Calls Tryz.prog 11 #[.iface 104 (.pointer (some ⟨B, 0, none⟩)), .agg #[.slice (some ⟨b, 0, none⟩) 1 1, .int .i64 n]] w fun e w' => e = .returned (.bool true) ∧ Below w.heap.size w w' :=
  tells_flt n _ [] _ (some ⟨b, 0, none⟩) 1 w hC hP.pts h4.err h4.tab h1 h2 (by simp) (fun p hp => by rw [List.mem_singleton.1 hp]; exact ⟨by simp, ha⟩)
end Go.Proofs.YtlniifheapoppaaGreatDoor
