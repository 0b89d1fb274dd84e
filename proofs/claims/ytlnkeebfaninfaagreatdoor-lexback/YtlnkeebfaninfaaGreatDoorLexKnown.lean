/- The contract of the law's known: tokens of a form. -/
import Derived.Test.YtlnkeebfaninfaaGreatDoorLexScan
import Derived.Test.YtlnkeebfaninfaaGreatDoorLexText
import Derived.Test.YtlnkeebfaninfaaGreatDoorErrIs
namespace Go.Proofs.YtlnkeebfaninfaaGreatDoor
open Go.RowKit

/-- The two texts. -/
def knA : List UInt8 := [40, 97, 32, 63, 120, 32, 63, 42, 103, 42, 32, 126, 53, 32, 34, 115, 34, 41, 32, 59, 32, 99]
def knB : List UInt8 := [97, 32, 63]
def knL : List Tk := [⟨4, 0, 0, []⟩, ⟨2, 1, 0, [97]⟩, ⟨6, 3, 0, [120]⟩, ⟨7, 6, 0, [103]⟩, ⟨8, 11, 0, []⟩, ⟨1, 12, 5, []⟩, ⟨3, 14, 0, [115]⟩, ⟨5, 17, 0, []⟩]
theorem scan_knA : scanQ knA 0 [] = ⟨knL, 0, 0⟩ := by rfl
theorem scan_knB : scanQ knB 0 [] = ⟨[], 2, 2⟩ := by rfl
theorem Bs_mark (w : World) (l : List UInt8) (C : Array Value) (T : Nat) (fr : Nat × Nat) (hC : C.toList = l.map fun c => .int .u8 (c.toNat : Int)) : Bs (w.alloc (.cells C T fr)) w.heap.size 0 l := fun i hi => by
  rw [Nat.zero_add, Go.Joins.cell_alloc_mark_at _ _ _ _ _ _ rfl, ← Array.getElem?_toList, hC, List.getElem?_map, List.getElem?_eq_getElem hi]; rfl
/-- errors.As turns no block that was there but its target's. -/
theorem as_cell (e : Addr) (t p : Addr) (w : World) (hp : p.block < w.heap.size) (hne : p.block ≠ t.block) : (asW e t w).cell? p = w.cell? p := by
  unfold asW
  rw [World.cell?_of_block (w := w)]
  rw [Below.heap_setCell _ _ _ _ hne, Below.heap_alloc _ _ _ (by simp; omega), Below.heap_alloc _ _ _ (by simp; omega), Below.heap_alloc _ _ _ (by simp; omega), Below.heap_alloc _ _ _ hp]
theorem as_below (B : Nat) (e t : Addr) (w : World) (hB : B ≤ w.heap.size) (ht : B ≤ t.block) : Below B w (asW e t w) := by
  unfold asW
  refine Below.setCell ?_ ht _
  exact ((((Below.refl _ _).alloc hB _).alloc (by simp; omega) _).alloc (by simp; omega) _).alloc (by simp; omega) _
theorem as_self (e t : Addr) (old : Value) (w : World) (ht : w.cell? t = some old) : (asW e t w).cell? t = some (.pointer (some e)) := by
  unfold asW
  have h : ((((w.alloc (.cells #[.pointer (some t)] 34)).alloc (.cells #[.pointer (some ⟨5, 34, none⟩), .pointer (some ⟨w.heap.size, 0, none⟩), .int .u64 150] 58)).alloc (.cells #[.pointer (some ⟨5, 34, none⟩), .pointer (some ⟨w.heap.size, 0, none⟩), .int .u64 150] 58)).alloc (.cells #[.pointer (some e)] 32)).cell? t = some old := alloc_cell (alloc_cell (alloc_cell (alloc_cell ht)))
  exact World.cell?_setCell_same _ _ _ h
theorem FaultAt.cells {w : World} {B : Nat} {a e : Int} (h : FaultAt w B a e) : w.cell? ⟨B, 0, none⟩ = some (.string ⟨#[99, 104, 97, 114]⟩) ∧ w.cell? ⟨B, 1, none⟩ = some (.int .i64 a) ∧ w.cell? ⟨B, 2, none⟩ = some (.iface 38 (.int .i64 e)) := by
  unfold FaultAt at h
  unfold World.cell?
  rw [h]; exact ⟨rfl, rfl, rfl⟩
/-- What the program's own memory is to hold, for the walks. -/
structure Lib4 (w : World) : Prop where
  tab : TabW w
  max : MaxW w
  err : ErrW w
theorem Lib4.next {w w' : World} (h : Lib4 w) (hb : Below w.heap.size w w') : Lib4 w' := ⟨tab_next h.tab hb, h.max.next hb, keep_cell hb h.err⟩
theorem own_at {w : World} {B T : Nat} {v : Value} {L : List Tk} (h : w.ownsRow B T 4 v L.length (toksC L)) (hL : 0 < L.length) : ∃ g cap, v = .slice (some ⟨g, 0, none⟩) L.length cap ∧ B ≤ g ∧ g < w.heap.size ∧ ∀ j v, (toksC L)[j]? = some v → w.cell? ⟨g, j, none⟩ = some v := by
  rcases h.2 with ⟨_, h0⟩ | ⟨g, cap, cur, rfl, hg, hh, _⟩
  · omega
  · have hlt : g < w.heap.size := by
      rcases Nat.lt_or_ge g w.heap.size with h1 | h1
      · exact h1
      · rw [Array.getElem?_eq_none h1] at hh; exact absurd hh (by simp)
    refine ⟨g, cap, rfl, hg, hlt, fun j v hj => ?_⟩
    have hjl : j < (toksC L).length := (List.getElem?_eq_some_iff.1 hj).1
    rw [h.1] at hjl
    rw [h.cellAt j hjl]; exact hj

theorem scan_ok (ao : Option Addr) (n cap : Nat) (l : List UInt8) (L : List Tk) (w : World) (hl : l.length = n) (h : IsB w ao l) (hn : n ≤ 65536) (hc : n ≤ cap) (hm : MaxW w) (hs : scanQ l 0 [] = ⟨L, 0, 0⟩) :
    Calls Tryz.prog 7 #[.slice ao n cap] w fun e w' => (∃ v, e = .returned (.tuple #[v, .nilIface]) ∧ w'.ownsRow w.heap.size 40 4 v L.length (toksC L)) ∧ Below w.heap.size w w' := by
  refine (scan_any ao n cap l w hl h hn hc hm).mono ?_
  rintro e w1 ⟨hb1, hr1⟩
  rw [hs] at hr1
  rcases hr1 with ⟨_, v, rfl, ho1⟩ | ⟨hx, _⟩
  · exact ⟨⟨v, rfl, ho1⟩, hb1⟩
  · exact absurd rfl hx
theorem scan_no (ao : Option Addr) (n cap : Nat) (l : List UInt8) (a : Nat) (f : Int) (w : World) (hl : l.length = n) (h : IsB w ao l) (hn : n ≤ 65536) (hc : n ≤ cap) (hm : MaxW w) (hs : scanQ l 0 [] = ⟨[], a, f⟩) (hf : f ≠ 0) :
    Calls Tryz.prog 7 #[.slice ao n cap] w fun e w' => (∃ B, w.heap.size ≤ B ∧ e = .returned (.tuple #[.slice none 0 0, .iface 32 (.pointer (some ⟨B, 0, none⟩))]) ∧ FaultAt w' B a f) ∧ Below w.heap.size w w' := by
  refine (scan_any ao n cap l w hl h hn hc hm).mono ?_
  rintro e w1 ⟨hb1, hr1⟩
  rw [hs] at hr1
  rcases hr1 with ⟨hx, _⟩ | ⟨_, B, h1, h2, h3⟩
  · exact absurd hx hf
  · exact ⟨⟨B, h1, h2, h3⟩, hb1⟩

set_option maxHeartbeats 8000000 in
set_option maxRecDepth 8000 in
theorem known_any (w : World) (h4 : Lib4 w) :
    Calls Tryz.prog 6 #[] w fun e w' => e = .returned (.bool true) ∧ Below w.heap.size w w' := by
  have H4 : Hid (Lib4 w) := h4
  clear h4
  have hcv := Lib.run_convert_bytes_const (P := Tryz.prog) w 22 5 #[.int .u8 40, .int .u8 97, .int .u8 32, .int .u8 63, .int .u8 120, .int .u8 32, .int .u8 63, .int .u8 42, .int .u8 103, .int .u8 42, .int .u8 32, .int .u8 126, .int .u8 53, .int .u8 32, .int .u8 34, .int .u8 115, .int .u8 34, .int .u8 41, .int .u8 32, .int .u8 59, .int .u8 32, .int .u8 99] 22 22 Tryz.underlying22 Tryz.underlying5
  simp only [List.size_toArray, List.length_cons, List.length_nil, Nat.zero_add, Nat.reduceAdd] at hcv
  go_enter Tryz.func6, Tryz.ntmps6
  go_wp2_with fail
  refine (scan_ok _ 22 22 knA knL _ rfl (Bs_mark w knA _ _ _ rfl).isB (by omega) (by omega) (H4.out.next (alloc_below _ _)).max scan_knA).mono ?_
  rintro e w1 ⟨⟨v, rfl, ho1⟩, hb1⟩
  obtain ⟨g, cap, rfl, hg1, hg2, hg3⟩ := own_at ho1 (by decide)
  have HB1 : Hid (Below w.heap.size w w1) := next_trans (alloc_below _ _) hb1
  have HG : Hid (∀ j v, (toksC knL)[j]? = some v → w1.cell? ⟨g, j, none⟩ = some v) := hg3
  clear hb1 ho1 hg3 hcv
  have hcv2 := Lib.run_convert_bytes_const (P := Tryz.prog) w1 22 5 #[.int .u8 97, .int .u8 32, .int .u8 63] 3 3 Tryz.underlying22 Tryz.underlying5
  simp only [List.size_toArray, List.length_cons, List.length_nil, Nat.zero_add, Nat.reduceAdd] at hcv2
  go_wp2_with fail
  refine (scan_no _ 3 3 knB 2 2 _ rfl (Bs_mark w1 knB _ _ _ rfl).isB (by omega) (by omega) (H4.out.next (next_trans HB1.out (alloc_below _ _))).max scan_knB (by decide)).mono ?_
  rintro e w2 ⟨⟨F, hF1, rfl, hF⟩, hb2⟩
  have HB2 : Hid (Below w1.heap.size w1 w2) := next_trans (alloc_below _ _) hb2
  have HF : Hid (FaultAt w2 F 2 2) := hF
  have HB20 : Hid (Below w.heap.size w w2) := next_trans HB1.out HB2.out
  clear hb2 hF hcv2
  have hww : ∀ j v, (toksC knL)[j]? = some v → (w2.alloc (.cells #[.pointer none] 32)).cell? ⟨g, j, none⟩ = some v := fun j v h => alloc_cell (keep_cell HB2.out (HG.out j v h))
  have k0 := hww 0 _ rfl
  have k2 := hww 8 _ rfl
  have s2 := hww 11 _ rfl
  have k3 := hww 12 _ rfl
  have i5 := hww 22 _ rfl
  have s6 := hww 27 _ rfl
  have a7 := hww 29 _ rfl
  simp only at k0 k2 s2 k3 i5 s6 a7
  have e120 : ((baL [120]).toList == [120]) = true := by rw [Lib.toList_data]; rfl
  have e115 : ((baL [115]).toList == [115]) = true := by rw [Lib.toList_data]; rfl
  have Hww : Hid (∀ j v, (toksC knL)[j]? = some v → (w2.alloc (.cells #[.pointer none] 32)).cell? ⟨g, j, none⟩ = some v) := hww
  clear hww
  have HF2 : Hid (FaultAt (w2.alloc (.cells #[.pointer none] 32)) F 2 2) := HF.out.next (alloc_below _ _)
  have hgw : g < w2.heap.size := Nat.lt_of_lt_of_le hg2 HB2.out.size
  have HE : Hid (ErrW (w2.alloc (.cells #[.pointer none] 32))) := (H4.out.next (next_trans HB20.out (alloc_below _ _))).err
  go_wp2_with (go_at_call 10; refine (is_hit F 2 2 _ HF2.out).mono ?_; rintro e w3 ⟨rfl, rfl⟩)
  refine (as_hit ⟨F, 0, none⟩ ⟨w2.heap.size, 0, none⟩ (.pointer none) _ HE.out (box0 rfl) ?_).mono ?_
  · simp
  rintro e w3 ⟨rfl, hw3⟩
  obtain ⟨HB3, hp3, hf0, hf1, hg12, hg13, hg14, hg15⟩ : Hid (Below w.heap.size w w3) ∧ w3.cell? ⟨w2.heap.size, 0, none⟩ = some (.pointer (some ⟨F, 0, none⟩)) ∧ w3.cell? ⟨F, 0, none⟩ = some (.string ⟨#[99, 104, 97, 114]⟩) ∧ w3.cell? ⟨F, 1, none⟩ = some (.int .i64 2) ∧ w3.cell? ⟨g, 12, none⟩ = some (.int .i64 7) ∧ w3.cell? ⟨g, 13, none⟩ = some (.int .i64 6) ∧ w3.cell? ⟨g, 14, none⟩ = some (.int .i64 0) ∧ w3.cell? ⟨g, 15, none⟩ = some (.string (baL [103])) := by
    subst hw3
    have hlt : ∀ q : Nat, (⟨g, q, none⟩ : Addr).block < (w2.alloc (.cells #[.pointer none] 32)).heap.size := fun q => by simp; omega
    have hne : ∀ q : Nat, (⟨g, q, none⟩ : Addr).block ≠ (⟨w2.heap.size, 0, none⟩ : Addr).block := fun q => by simp; omega
    have hFl : F < w2.heap.size := by
      rcases Nat.lt_or_ge F w2.heap.size with h1 | h1
      · exact h1
      · have := HF.out; unfold FaultAt at this; rw [Array.getElem?_eq_none h1] at this; exact absurd this (by simp)
    have hFc := HF2.out.cells
    refine ⟨?_, as_self _ _ (.pointer none) _ (box0 rfl), ?_, ?_, ?_, ?_, ?_, ?_⟩
    · exact (next_trans HB20.out (alloc_below _ _)).trans (as_below _ _ _ _ (next_trans HB20.out (alloc_below _ _)).size HB20.out.size)
    · rw [as_cell _ _ _ _ (by simp; omega) (by simp; omega)]; exact hFc.1
    · rw [as_cell _ _ _ _ (by simp; omega) (by simp; omega)]; exact hFc.2.1
    · rw [as_cell _ _ _ _ (hlt _) (hne _)]; exact Hww.out 12 _ rfl
    · rw [as_cell _ _ _ _ (hlt _) (hne _)]; exact Hww.out 13 _ rfl
    · rw [as_cell _ _ _ _ (hlt _) (hne _)]; exact Hww.out 14 _ rfl
    · rw [as_cell _ _ _ _ (hlt _) (hne _)]; exact Hww.out 15 _ rfl
  clear hw3
  have HTx : Hid (Calls Tryz.prog 11 #[.agg #[.int .i64 (7), .int .i64 (6), .int .i64 (0), .string (baL [103])]] w3 fun e w' => e = .returned (.string (tokS 7 0 (baL [103]))) ∧ Below w3.heap.size w3 w') :=
    lex_text 7 6 0 _ w3 (by unfold isKind; omega) (by decide) (by decide) (H4.out.next HB3.out).tab
  have et : ((tokS 7 0 (baL [103])).toList == [63, 42, 103, 42]) = true := by rw [Lib.toList_data]; rfl
  go_wp2_with fail
  refine HTx.out.mono ?_
  rintro e w4 ⟨rfl, hb4⟩
  have HB4 : Hid (Below w.heap.size w w4) := next_trans HB3.out hb4
  clear hb4
  go_wp2
  go_ret
  exact ⟨rfl, HB4.out⟩
end Go.Proofs.YtlnkeebfaninfaaGreatDoor
