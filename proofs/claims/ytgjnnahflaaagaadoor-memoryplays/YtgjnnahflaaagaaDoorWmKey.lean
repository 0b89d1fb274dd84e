/- The contracts of a fact's key and of Find. -/
import Derived.Test.YtgjnnahflaaagaaDoorWmSmall
import Derived.Deep.RegionHeld3
namespace Go.Proofs.YtgjnnahflaaagaaDoor
open Go.RowKit Go.Maps

set_option maxHeartbeats 1000000 in
theorem key_any (t : ByteArray) (ao : Option Addr) (cap N : Nat) (L : List Val) (w : World) (hN : L.length = N) (hv : IsVals w ao L) (hc : ao = none → N = 0 ∧ cap = 0) (hm : N ≤ 50) (hs : t.size ≤ 1000) (hl : ∀ v ∈ L, v.ok) (ht : TabW w) :
    Calls Tryd.prog 26 #[.string t, .slice ao N cap] w fun e w' => e = .returned (.string (keyB t L)) ∧ Below w.heap.size w w' := by
  have HV : Hid (∀ w', Below w.heap.size w w' → IsVals w' ao L) := fun w' hb => hv.next hb
  have HN : Hid (L.length = N) := hN
  have HC : Hid (ao = none → N = 0 ∧ cap = 0) := hc
  have HK : Hid (∀ v ∈ keyV t L, v.ok) := keyV_ok hs hl
  have HT : Hid (TabW w) := ht
  have hlen : (keyV t L).length = 1 + N := by unfold keyV; rw [List.length_cons, hN]; omega
  clear hv hc hl ht hN
  go_enter Tryd.func26, Tryd.ntmps26
  go_wp2_with fail
  refine (of_str t _).mono ?_
  rintro e w1 ⟨rfl, hb1⟩
  obtain ⟨g1, hg1⟩ : ∃ g1, w1.heap.size = g1 := ⟨_, rfl⟩
  have HR : Hid (∃ a' c' w2, (Builtin.append_ #[27, 27] 27 #[.slice (some ⟨w1.heap.size, 0, none⟩) 1 1, .slice ao N cap]).run Tryd.prog (w1.alloc (.cells #[.int .i64 3, .int .i64 0, .string t] 32)) = .ok (.slice a' (1 + N) c') w2 ∧ IsVals w2 a' (keyV t L) ∧ Below w.heap.size w w2) := by
    have ho := World.ownsRow_lit (e := 32) (size := 3) w1 #[.int .i64 3, .int .i64 0, .string t] 1 (Nat.le_refl _) (by unfold maxLen; omega) (by simp)
    have hb2 : Below w.heap.size w (w1.alloc (.cells #[.int .i64 3, .int .i64 0, .string t] 32)) := hb1.alloc hb1.size _
    obtain ⟨v', w2, hr, hown, hg⟩ := append_vals (cap := cap) ho HN.out (HV.out _ hb2) HC.out (by omega) (by omega) (by simp)
    have e : (#[.int .i64 3, .int .i64 0, .string t] : Array Value).toList ++ valsC L = valsC (keyV t L) := by unfold keyV; rw [valsC_cons]; rfl
    rw [e] at hown
    obtain ⟨a', c', rfl, hva⟩ := ValsAt.own hlen hown
    refine ⟨a', c', w2, hr, hva.vals, hb2.grown hg (by have := hb1.size; simp; omega) ?_⟩
    intro k hk
    simp [Value.ownBlock] at hk
    have := hb1.size
    omega
  obtain ⟨a', c', w2, hr, hva, hb2⟩ := HR.out
  have HA : Hid (IsVals w2 a' (keyV t L)) := hva
  have HB : Hid (Below w.heap.size w w2) := hb2
  clear hva hb2 HR hb1 hg1
  go_wp2_with (at_builtin; refine wpList_append_run _ rfl _ _ 27 rfl _ _ _ _ rfl rfl hr ?_)
  have hh := hash_any a' c' (keyV t L) w2 HA.out HK.out (by rw [hlen]; omega) (tab_next HT.out HB.out)
  rw [hlen] at hh
  refine hh.mono ?_
  rintro e w3 ⟨rfl, hb3⟩
  go_wp2
  go_ret
  exact ⟨rfl, next_trans HB.out hb3⟩

/-- What the map tells of a key. -/
theorem MapIs.look {w : World} {bm n : Nat} {F : List Ft} (h : MapIs w bm n F) {s : ByteArray} (hs : s.size ≤ maxLen) :
    (Instr.lookup 59 (.map (some bm)) (.string s) true).run Tryd.prog w = .ok (.tuple #[.int .i64 (idOf F s), .bool (decide (idOf F s ≠ 0))]) w := by
  obtain ⟨D, hown, hD⟩ := h
  obtain ⟨hh, ha⟩ := hD s
  have hkey : keyOf Tryd.prog 9 (.string s) = some (keyS s) := Go.WideMaps.keyOf_string_mk Tryd.underlying9 hs
  obtain ⟨v, ps, hrun, hv⟩ := hown.look_ok lawS Tryd.underlying59 (zeroI w) (zd := .lit (.int .i64 0)) (zp := []) (plainElem_int Tryd.underlying3 (by decide)) hkey
  obtain ⟨c, rfl, hc, hwc⟩ := plainElem_int_inv Tryd.underlying3 hv
  have e := ha.symm.trans (congrArg Prod.fst hc)
  injection e with e
  injection e with _ e
  rw [hrun, hh, e]
theorem look_none (w : World) {s : ByteArray} (hs : s.size ≤ maxLen) : (Instr.lookup 59 (.map none) (.string s) true).run Tryd.prog w = .ok (.tuple #[.int .i64 0, .bool false]) w :=
  look_nil (w := w) true lawS Tryd.underlying59 (zeroI _) (Go.WideMaps.keyOf_string_mk Tryd.underlying9 hs)
theorem Mem.look {w : World} {B b last : Nat} {v m : Value} {F : List Ft} (M : Mem w B b v m last F) {s : ByteArray} (hs : s.size ≤ maxLen) :
    (Instr.lookup 59 m (.string s) true).run Tryd.prog w = .ok (.tuple #[.int .i64 (idOf F s), .bool (decide (idOf F s ≠ 0))]) w := by
  rcases M.map with ⟨rfl, rfl⟩ | ⟨bm, rfl, _, hm⟩
  · exact look_none w hs
  · exact hm.look hs

set_option maxHeartbeats 1000000 in
theorem find_any (w : World) (B b last : Nat) (v m : Value) (F : List Ft) (M : Mem w B b v m last F) (t : ByteArray) (ao : Option Addr) (cap N : Nat) (L : List Val) (hN : L.length = N) (hv : IsVals w ao L) (hc : ao = none → N = 0 ∧ cap = 0) (hm : N ≤ 50) (hs : t.size ≤ 1000) (hl : ∀ v ∈ L, v.ok) (ht : TabW w) :
    Calls Tryd.prog 11 #[.pointer (some ⟨b, 0, none⟩), .string t, .slice ao N cap] w fun e w' => e = .returned (.tuple #[.int .i64 (idOf F (keyB t L)), .bool (decide (idOf F (keyB t L) ≠ 0))]) ∧ Below w.heap.size w w' := by
  obtain ⟨K, HK⟩ : ∃ K, Hid (keyB t L = K) := ⟨_, rfl⟩
  obtain ⟨I, HI⟩ : ∃ I, Hid (idOf F K = I) := ⟨_, rfl⟩
  obtain ⟨Q, HQ⟩ : ∃ Q, Hid (decide (I ≠ 0) = Q) := ⟨_, rfl⟩
  have HC : Hid (∀ w', Below w.heap.size w w' → Calls Tryd.prog 26 #[.string t, .slice ao N cap] w' fun e w2 => e = .returned (.string K) ∧ Below w'.heap.size w' w2) := by
    intro w' hb; rw [← HK.out]; exact key_any t ao cap N L w' hN (hv.next hb) hc hm hs hl (tab_next ht hb)
  have HL : Hid (∀ w', Below w.heap.size w w' → w'.cell? ⟨b, 1, none⟩ = some m ∧ (Instr.lookup 59 m (.string K) true).run Tryd.prog w' = .ok (.tuple #[.int .i64 I, .bool Q]) w') := by
    intro w' hb
    have M' := M.next hb
    refine ⟨M'.box.cell 1, ?_⟩
    rw [← HQ.out, ← HI.out]
    exact M'.look (by rw [← HK.out]; exact key_size hs hl (by omega))
  rw [HK.out, HI.out, HQ.out]
  have c1 : w.cell? ⟨b, 1, none⟩ = some m := M.box.cell 1
  clear M hv hc hl ht
  go_enter Tryd.func11, Tryd.ntmps11
  go_wp2
  go_region_with (go_at_call 26; refine (HC.out _ (Below.refl _ _).drew).mono ?_; rintro e w1 ⟨rfl, hb⟩; obtain ⟨c1', hlk⟩ := HL.out w1 (below_undrawn hb))
  all_goals
    go_wp2
    go_ret2
    exact ⟨rfl, below_undrawn hb⟩
end Go.Proofs.YtgjnnahflaaagaaDoor
