/- The law's To: a node as the program's. -/
import Derived.Deep.RegionWith
import Derived.Test.YtlniifheapoppaaDoorG13
import Derived.Test.YtlniifheapoppaaDoorG24
import Derived.Test.YtlniifheapoppaaDoorG10
namespace Go.Proofs.YtlniifheapoppaaDoor
open Go.RowKit

theorem inSN : (Tryd.prog.info? 48).map (fun i => (i.zero, i.size, i.bytes)) = some (some zeroNd, 5, 64) := by kernel_rfl
theorem inSN' : ∃ i, Tryd.prog.info? 48 = some i ∧ i.zero = some zeroNd ∧ i.size = 5 ∧ i.bytes = 64 := by
  obtain ⟨i, h, e⟩ := Option.map_eq_some_iff.1 inSN
  simp only [Prod.mk.injEq] at e
  exact ⟨i, h, e.1, e.2.1, e.2.2⟩

structure SoAt (w wr : World) (k : Int) (a : Nat) (i : Int) (Y : ByteArray) (l : List Nd) (ao : Option Addr) (M cap j : Nat) (cs : List Nc) (v : Value) : Prop where
  bel : Below w.heap.size w wr
  siz : w.heap.size + 3 ≤ wr.heap.size
  c4 : wr.cell? ⟨w.heap.size, 4, none⟩ = some (.slice ao M cap)
  b1 : Box5 wr (w.heap.size + 1) (.int .i64 0) (.int .i64 0) (.int .i64 0) (.string ⟨#[]⟩) (.slice none 0 0)
  b2 : Box5 wr (w.heap.size + 2) (.int .i64 k) (.int .i64 (a : Int)) (.int .i64 i) (.string Y) v
  own : wr.ownsRow (w.heap.size + 3) 48 5 v cs.length (ncsC cs)
  kids : NcsIs wr (offB (w.heap.size + 3) v) cs (l.take j)

end Go.Proofs.YtlniifheapoppaaDoor
/- Package tmpl: a slot as a node. -/
namespace Go.Proofs.YtlniifheapoppaaDoor
open Go.RowKit

theorem symbol_any (Y : ByteArray) (w : World) :
    Calls Tryd.prog 30 #[.string Y] w fun e w' => e = .returned (.agg #[.int .i64 (2), .int .i64 (0), .int .i64 (0), .string (Y), .slice none 0 0]) ∧ Below w.heap.size w w' := by
  go_enter Tryd.func30, Tryd.ntmps30
  go_wp2
  exact bodyPost_ret (v := .agg #[.int .i64 (2), .int .i64 (0), .int .i64 (0), .string (Y), .slice none 0 0]) (by simp [results, Tryd.results30, go_sem]) rfl ⟨rfl, alloc_below _ _⟩
theorem list_any (ao : Option Addr) (n cap : Nat) (w : World) :
    Calls Tryd.prog 32 #[.slice ao n cap] w fun e w' => e = .returned (.agg #[.int .i64 (0), .int .i64 (0), .int .i64 (0), .string (⟨#[]⟩), .slice ao n cap]) ∧ Below w.heap.size w w' := by
  go_enter Tryd.func32, Tryd.ntmps32
  go_wp2
  exact bodyPost_ret (v := .agg #[.int .i64 (0), .int .i64 (0), .int .i64 (0), .string (⟨#[]⟩), .slice ao n cap]) (by simp [results, Tryd.results32, go_sem]) rfl ⟨rfl, alloc_below _ _⟩
theorem lit_nds {w : World} {b : Nat} {S : Nat → Prop} {L : List Nc} {l : List Nd} (hx : Bx w b (ncsC L).toArray) (hS : S b) (hL : NcsIs w S L l) : IsNds w S (some ⟨b, 0, none⟩) l :=
  ⟨b, 0, fun _ => rfl, ncs_at hS L l 0 hL fun j v hj => by rw [Nat.zero_add, hx.cell j, List.getElem?_toArray]; exact hj⟩
theorem nc_sym (w : World) (S : Nat → Prop) (s : List UInt8) : NcIs w S ⟨2, 0, 0, s, none, 0, 0⟩ (tsym s) := NcIs.leaf w S 2 0 0 s
/-- A slot's boxes: the slot, the result. -/
structure SnW (w wr : World) (n : ByteArray) (k i : Int) (s : ByteArray) : Prop where
  bel : Below w.heap.size w wr
  x : Bx wr w.heap.size #[.string n, .int .i64 k, .int .i64 i, .string s]
  r : Bx wr (w.heap.size + 1) #[.int .i64 0, .int .i64 0, .int .i64 0, .string ⟨#[]⟩, .slice none 0 0]
theorem SnW.next {w wr w' : World} {n : ByteArray} {k i : Int} {s : ByteArray} (h : SnW w wr n k i s) (hb : Below wr.heap.size wr w') : SnW w w' n k i s := ⟨next_trans h.bel hb, h.x.next hb, h.r.next hb⟩
theorem SnW.cells {w wr : World} {n : ByteArray} {k i : Int} {s : ByteArray} (h : SnW w wr n k i s) : wr.cell? ⟨w.heap.size, 0, none⟩ = some (.string n) ∧ wr.cell? ⟨w.heap.size, 1, none⟩ = some (.int .i64 k) ∧ wr.cell? ⟨w.heap.size, 2, none⟩ = some (.int .i64 i) ∧ wr.cell? ⟨w.heap.size, 3, none⟩ = some (.string s) ∧
    wr.cell? ⟨w.heap.size + 1, 0, none⟩ = some (.int .i64 0) ∧ wr.cell? ⟨w.heap.size + 1, 1, none⟩ = some (.int .i64 0) ∧ wr.cell? ⟨w.heap.size + 1, 2, none⟩ = some (.int .i64 0) ∧ wr.cell? ⟨w.heap.size + 1, 3, none⟩ = some (.string ⟨#[]⟩) ∧ wr.cell? ⟨w.heap.size + 1, 4, none⟩ = some (.slice none 0 0) ∧
    (∀ j, wr.frozen? ⟨w.heap.size + 1, j, none⟩ = false) ∧ w.heap.size + 1 < wr.heap.size :=
  ⟨h.x.cell 0, h.x.cell 1, h.x.cell 2, h.x.cell 3, h.r.cell 0, h.r.cell 1, h.r.cell 2, h.r.cell 3, h.r.cell 4, h.r.froz, h.r.lt⟩
def setN5 (w : World) (b : Nat) (v0 v1 v2 v3 v4 : Value) : World := ((((w.setCell ⟨b, 0, none⟩ v0).setCell ⟨b, 1, none⟩ v1).setCell ⟨b, 2, none⟩ v2).setCell ⟨b, 3, none⟩ v3).setCell ⟨b, 4, none⟩ v4
theorem setN5_block {w : World} {b k : Nat} (v0 v1 v2 v3 v4 : Value) (h : k ≠ b) : (setN5 w b v0 v1 v2 v3 v4).heap[k]? = w.heap[k]? := by
  unfold setN5
  rw [Below.heap_setCell _ _ _ _ h, Below.heap_setCell _ _ _ _ h, Below.heap_setCell _ _ _ _ h, Below.heap_setCell _ _ _ _ h, Below.heap_setCell _ _ _ _ h]
theorem setN5_below {w w1 : World} {B b : Nat} (v0 v1 v2 v3 v4 : Value) (h : Below B w w1) (hb : B ≤ b) : Below B w (setN5 w1 b v0 v1 v2 v3 v4) := by
  unfold setN5
  exact set_bel (set_bel (set_bel (set_bel (set_bel h hb) hb) hb) hb) hb
/-- What a node's maker tells. -/
def MkR (w w' : World) (e : Ending) (x : Nd) : Prop := ∃ c : Nc, e = .returned (nodeV c) ∧ NcIs w' (geB w.heap.size) c x
theorem mk_done {w w5 : World} {b m : Nat} {c : Nc} {x : Nd} (h : NcIs w5 (geB m) c x) (hb : w.heap.size ≤ b) (hm : b < m) (v0 v1 v2 v3 v4 : Value) (V : Value) (hV : V = nodeV c) (hB : Below w.heap.size w w5) : MkR w (setN5 w5 b v0 v1 v2 v3 v4) (.returned V) x ∧ Below w.heap.size w (setN5 w5 b v0 v1 v2 v3 v4) :=
  ⟨⟨c, by rw [hV], h.keep fun k hk _ => ⟨setN5_block _ _ _ _ _ (by unfold geB at hk; omega), by unfold geB at hk ⊢; omega⟩⟩, setN5_below _ _ _ _ _ hB hb⟩

set_option maxHeartbeats 8000000 in
set_option maxRecDepth 8000 in
theorem slotnode_any (s : Sl) (w : World) :
    Calls Tryd.prog 31 #[slV s] w fun e w' => MkR w w' e (slotNd s) ∧ Below w.heap.size w w' := by
  obtain ⟨n, k, i, t⟩ := s
  unfold slV
  simp only
  obtain ⟨q, HQ⟩ : ∃ q, Hid (nilS ⟨n, k, i, t⟩ = q) := ⟨_, rfl⟩
  have HSm : Hid (∀ w : World, Calls Tryd.prog 47 #[.agg #[.int .i64 (k), .int .i64 (i), .string (t)], .agg #[.int .i64 (2), .int .i64 (0), .string (baL wNil)]] w fun e w' => e = .returned (.bool q) ∧ Below w.heap.size w w') := by
    intro w; rw [← HQ.out]; exact same_any k i 2 0 t _ w
  obtain ⟨x, HX⟩ : ∃ x, Hid (slotNd ⟨n, k, i, t⟩ = x) := ⟨_, rfl⟩
  rw [HX.out]
  obtain ⟨W, HWe⟩ : ∃ W, Hid ((w.alloc (.cells #[.string n, .int .i64 k, .int .i64 i, .string t] 32)).alloc (.cells #[.int .i64 0, .int .i64 0, .int .i64 0, .string ⟨#[]⟩, .slice none 0 0] 48) = W) := ⟨_, rfl⟩
  have HW : Hid (SnW w W n k i t) := by
    refine ⟨?_, ?_, ?_⟩
    · rw [← HWe.out]; exact next_trans (alloc_below _ _) (alloc_below _ _)
    · rw [← HWe.out]; exact (Bx.made _ _ _).alloc _
    · exact Bx.made' HWe.out (by simp)
  go_enter Tryd.func31, Tryd.ntmps31
  go_wp2_with fail
  rw [HWe.out]
  clear HWe
  obtain ⟨x0, x1, x2, x3, _, _, _, _, _, _, hl⟩ := HW.out.cells
  have s0 : Below W.heap.size W W.drew := (Below.refl _ _).drew
  have s1 : W.heap.size ≤ W.drew.heap.size := s0.size
  have HU : Hid (∀ w : World, Calls Tryd.prog 48 #[] w fun e w' => e = .returned (.agg #[.int .i64 (2), .int .i64 (0), .string (baL wNil)]) ∧ Below w.heap.size w w') := unset_any
  go_region_held3 (fun w' => w'.cell? ⟨w.heap.size, 0, none⟩ = some (.string n) ∧ w'.cell? ⟨w.heap.size, 1, none⟩ = some (.int .i64 k) ∧ w'.cell? ⟨w.heap.size, 2, none⟩ = some (.int .i64 i) ∧ w'.cell? ⟨w.heap.size, 3, none⟩ = some (.string t) ∧ Below W.heap.size W w' ∧ W.heap.size ≤ w'.heap.size)
    (((try dsimp only); go_split_ands; refine ⟨?_, ?_, ?_, ?_, ?_, ?_⟩ <;> first | assumption | exact keep_cell (by assumption) (by assumption) | exact below_next (by assumption) (by assumption) (by assumption) | exact le_next (by assumption) (by assumption)))
    (first
      | (go_at_call 48; refine (HU.out _).mono ?_; rintro e w' ⟨rfl, hb⟩)
      | (go_at_call 47; refine (HSm.out _).mono ?_; rintro e w' ⟨rfl, hb⟩))
  all_goals
    go_split_ands
    have HW2 : Hid (SnW w w' n k i t) := HW.out.next (by assumption)
    clear HW HSm HU
    obtain ⟨x0, x1, x2, x3, r0, r1, r2, r3, r4, rf, hl⟩ := HW2.out.cells
    cases q with
    | true =>
      have HXv : Hid (x = ⟨0, 0, 0, [], [tsym wSlot, tsym n.data.toList]⟩) := by rw [Hid, ← HX.out]; unfold slotNd; rw [HQ.out]; rfl
      go_wp2
      go_region_with (first
        | (go_at_call 32; refine (list_any _ _ _ _).mono ?_; rintro e w5 ⟨rfl, hb5⟩; have HW5 : Hid (SnW w w5 n k i t) := HW4.out.next (by first | exact next_trans (alloc_below _ _) (below_undrawn hb5) | exact next_trans (alloc_below _ _) hb5 | exact below_undrawn (next_trans (alloc_below _ _) hb5)); have HP5 : Hid (Bx w5 w4.heap.size #[.int .i64 2, .int .i64 0, .int .i64 0, .string ⟨#[115, 108, 111, 116]⟩, .slice none 0 0, .int .i64 2, .int .i64 0, .int .i64 0, .string n, .slice none 0 0]) := (Bx.made _ _ _).next (by first | exact below_undrawn hb5 | exact hb5); obtain ⟨x0, x1, x2, x3, r0, r1, r2, r3, r4, rf, hl⟩ := HW5.out.cells)
        | (go_at_call 30; have _g := hb3; refine (symbol_any _ _).mono ?_; rintro e w4 ⟨rfl, hb4⟩; have HW4 : Hid (SnW w w4 n k i t) := HW3.out.next (by first | exact below_undrawn hb4 | exact hb4); obtain ⟨x0, x1, x2, x3, r0, r1, r2, r3, r4, rf, hl⟩ := HW4.out.cells)
        | (go_at_call 30; refine (symbol_any _ _).mono ?_; rintro e w3 ⟨rfl, hb3⟩; have HW3 : Hid (SnW w w3 n k i t) := HW2.out.next (by first | exact below_undrawn hb3 | exact hb3); obtain ⟨x0, x1, x2, x3, r0, r1, r2, r3, r4, rf, hl⟩ := HW3.out.cells))
      all_goals
        have hl4 : w.heap.size + 1 < w4.heap.size := HW4.out.r.lt
        have HNc : Hid (NcIs w5 (geB (w.heap.size + 2)) ⟨0, 0, 0, [], some ⟨w4.heap.size, 0, none⟩, 2, 2⟩ x) := by
          rw [Hid, HXv.out]
          refine ⟨rfl, rfl, rfl, rfl, rfl, Nat.le_refl _, ?_⟩
          refine lit_nds (L := [⟨2, 0, 0, wSlot, none, 0, 0⟩, ⟨2, 0, 0, n.data.toList, none, 0, 0⟩]) ?_ (by unfold geB; omega) ⟨nc_sym _ _ _, nc_sym _ _ _, trivial⟩
          show Bx w5 w4.heap.size #[.int .i64 2, .int .i64 0, .int .i64 0, .string ⟨#[115, 108, 111, 116]⟩, .slice none 0 0, .int .i64 2, .int .i64 0, .int .i64 0, .string (baL n.data.toList), .slice none 0 0]
          rw [ba_self]; exact HP5.out
        clear HP5 hb3 hb4 hb5 HW3 HW4 HW2
        go_wp2
        exact bodyPost_ret (v := .agg #[.int .i64 (0), .int .i64 (0), .int .i64 (0), .string (⟨#[]⟩), .slice (some ⟨w4.heap.size, 0, none⟩) 2 2]) (by simp [results, Tryd.results31, go_sem, r0, r1, r2, r3, r4]) rfl (mk_done HNc.out (by omega) (by omega) _ _ _ _ _ _ rfl HW5.out.bel)
    | false =>
      have HXv : Hid (x = ⟨0, 0, 0, [], [tsym wSlot, tsym n.data.toList, ⟨0, 0, 0, [], [tsym wDef, ⟨k, 0, i, t.data.toList, []⟩]⟩]⟩) := by rw [Hid, ← HX.out]; unfold slotNd; rw [HQ.out]; rfl
      obtain ⟨W3, HW3e⟩ : ∃ W3, Hid (w'.alloc (.cells #[.int .i64 k, .int .i64 0, .int .i64 i, .string t, .slice none 0 0] 48) = W3) := ⟨_, rfl⟩
      obtain ⟨BV, HBV⟩ : ∃ BV, Hid (w'.heap.size = BV) := ⟨_, rfl⟩
      have HV2 : Hid (Bx W3 BV #[.int .i64 k, .int .i64 0, .int .i64 i, .string t, .slice none 0 0]) := Bx.made' HW3e.out HBV.out
      have HWx : Hid (SnW w W3 n k i t) := by rw [← HW3e.out]; exact HW2.out.next (alloc_below _ _)
      clear HW2
      have HW2 := HWx
      clear HWx
      go_wp2
      rw [HW3e.out, HBV.out]
      clear HW3e HBV x0 x1 x2 x3 r0 r1 r2 r3 r4 rf hl
      obtain ⟨x0, x1, x2, x3, r0, r1, r2, r3, r4, rf, hl⟩ := HW2.out.cells
      have v0 : W3.cell? ⟨BV, 0, none⟩ = some (.int .i64 k) := HV2.out.cell 0
      have v1 : W3.cell? ⟨BV, 1, none⟩ = some (.int .i64 0) := HV2.out.cell 1
      have v2 : W3.cell? ⟨BV, 2, none⟩ = some (.int .i64 i) := HV2.out.cell 2
      have v3 : W3.cell? ⟨BV, 3, none⟩ = some (.string t) := HV2.out.cell 3
      have v4 : W3.cell? ⟨BV, 4, none⟩ = some (.slice none 0 0) := HV2.out.cell 4
      go_region_with (first
        | (go_at_call 32; have _g := hb7; refine (list_any _ _ _ _).mono ?_; rintro e w8 ⟨rfl, hb8⟩; have HW8 : Hid (SnW w w8 n k i t) := HW7.out.next (by first | exact next_trans (alloc_below _ _) (below_undrawn hb8) | exact next_trans (alloc_below _ _) hb8 | exact below_undrawn (next_trans (alloc_below _ _) hb8)); have HV8 : Hid (Bx w8 BV #[.int .i64 k, .int .i64 0, .int .i64 i, .string t, .slice none 0 0]) := HV7.out.next (by first | exact next_trans (alloc_below _ _) (below_undrawn hb8) | exact next_trans (alloc_below _ _) hb8 | exact below_undrawn (next_trans (alloc_below _ _) hb8)); have HP8 : Hid (Bx w8 w6.heap.size #[.int .i64 2, .int .i64 0, .int .i64 0, .string ⟨#[100, 101, 102, 97, 117, 108, 116]⟩, .slice none 0 0, .int .i64 k, .int .i64 0, .int .i64 i, .string t, .slice none 0 0]) := HP7.out.next (by first | exact next_trans (alloc_below _ _) (below_undrawn hb8) | exact next_trans (alloc_below _ _) hb8 | exact below_undrawn (next_trans (alloc_below _ _) hb8)); have HQ8 : Hid (Bx w8 w7.heap.size #[.int .i64 2, .int .i64 0, .int .i64 0, .string ⟨#[115, 108, 111, 116]⟩, .slice none 0 0, .int .i64 2, .int .i64 0, .int .i64 0, .string n, .slice none 0 0, .int .i64 0, .int .i64 0, .int .i64 0, .string ⟨#[]⟩, .slice (some ⟨w6.heap.size, 0, none⟩) 2 2]) := (Bx.made _ _ _).next (by first | exact below_undrawn hb8 | exact hb8); obtain ⟨x0, x1, x2, x3, r0, r1, r2, r3, r4, rf, hl⟩ := HW8.out.cells; have v0 : w8.cell? ⟨BV, 0, none⟩ = some (.int .i64 k) := HV8.out.cell 0; have v1 : w8.cell? ⟨BV, 1, none⟩ = some (.int .i64 0) := HV8.out.cell 1; have v2 : w8.cell? ⟨BV, 2, none⟩ = some (.int .i64 i) := HV8.out.cell 2; have v3 : w8.cell? ⟨BV, 3, none⟩ = some (.string t) := HV8.out.cell 3; have v4 : w8.cell? ⟨BV, 4, none⟩ = some (.slice none 0 0) := HV8.out.cell 4)
        | (go_at_call 32; refine (list_any _ _ _ _).mono ?_; rintro e w7 ⟨rfl, hb7⟩; have HW7 : Hid (SnW w w7 n k i t) := HW6.out.next (by first | exact next_trans (alloc_below _ _) (below_undrawn hb7) | exact next_trans (alloc_below _ _) hb7 | exact below_undrawn (next_trans (alloc_below _ _) hb7)); have HV7 : Hid (Bx w7 BV #[.int .i64 k, .int .i64 0, .int .i64 i, .string t, .slice none 0 0]) := HV6.out.next (by first | exact next_trans (alloc_below _ _) (below_undrawn hb7) | exact next_trans (alloc_below _ _) hb7 | exact below_undrawn (next_trans (alloc_below _ _) hb7)); have HP7 : Hid (Bx w7 w6.heap.size #[.int .i64 2, .int .i64 0, .int .i64 0, .string ⟨#[100, 101, 102, 97, 117, 108, 116]⟩, .slice none 0 0, .int .i64 k, .int .i64 0, .int .i64 i, .string t, .slice none 0 0]) := (Bx.made _ _ _).next (by first | exact below_undrawn hb7 | exact hb7); obtain ⟨x0, x1, x2, x3, r0, r1, r2, r3, r4, rf, hl⟩ := HW7.out.cells; have v0 : w7.cell? ⟨BV, 0, none⟩ = some (.int .i64 k) := HV7.out.cell 0; have v1 : w7.cell? ⟨BV, 1, none⟩ = some (.int .i64 0) := HV7.out.cell 1; have v2 : w7.cell? ⟨BV, 2, none⟩ = some (.int .i64 i) := HV7.out.cell 2; have v3 : w7.cell? ⟨BV, 3, none⟩ = some (.string t) := HV7.out.cell 3; have v4 : w7.cell? ⟨BV, 4, none⟩ = some (.slice none 0 0) := HV7.out.cell 4)
        | (go_at_call 30; have _g := hb4; refine (symbol_any _ _).mono ?_; rintro e w6 ⟨rfl, hb6⟩; have HW6 : Hid (SnW w w6 n k i t) := HW4.out.next (by first | exact below_undrawn hb6 | exact hb6); have HV6 : Hid (Bx w6 BV #[.int .i64 k, .int .i64 0, .int .i64 i, .string t, .slice none 0 0]) := HV4.out.next (by first | exact below_undrawn hb6 | exact hb6); obtain ⟨x0, x1, x2, x3, r0, r1, r2, r3, r4, rf, hl⟩ := HW6.out.cells; have v0 : w6.cell? ⟨BV, 0, none⟩ = some (.int .i64 k) := HV6.out.cell 0; have v1 : w6.cell? ⟨BV, 1, none⟩ = some (.int .i64 0) := HV6.out.cell 1; have v2 : w6.cell? ⟨BV, 2, none⟩ = some (.int .i64 i) := HV6.out.cell 2; have v3 : w6.cell? ⟨BV, 3, none⟩ = some (.string t) := HV6.out.cell 3; have v4 : w6.cell? ⟨BV, 4, none⟩ = some (.slice none 0 0) := HV6.out.cell 4)
        | (go_at_call 30; have _g := hb3; refine (symbol_any _ _).mono ?_; rintro e w4 ⟨rfl, hb4⟩; have HW4 : Hid (SnW w w4 n k i t) := HW3.out.next (by first | exact below_undrawn hb4 | exact hb4); have HV4 : Hid (Bx w4 BV #[.int .i64 k, .int .i64 0, .int .i64 i, .string t, .slice none 0 0]) := HV3.out.next (by first | exact below_undrawn hb4 | exact hb4); obtain ⟨x0, x1, x2, x3, r0, r1, r2, r3, r4, rf, hl⟩ := HW4.out.cells; have v0 : w4.cell? ⟨BV, 0, none⟩ = some (.int .i64 k) := HV4.out.cell 0; have v1 : w4.cell? ⟨BV, 1, none⟩ = some (.int .i64 0) := HV4.out.cell 1; have v2 : w4.cell? ⟨BV, 2, none⟩ = some (.int .i64 i) := HV4.out.cell 2; have v3 : w4.cell? ⟨BV, 3, none⟩ = some (.string t) := HV4.out.cell 3; have v4 : w4.cell? ⟨BV, 4, none⟩ = some (.slice none 0 0) := HV4.out.cell 4)
        | (go_at_call 30; refine (symbol_any _ _).mono ?_; rintro e w3 ⟨rfl, hb3⟩; have HW3 : Hid (SnW w w3 n k i t) := HW2.out.next (by first | exact below_undrawn hb3 | exact hb3); have HV3 : Hid (Bx w3 BV #[.int .i64 k, .int .i64 0, .int .i64 i, .string t, .slice none 0 0]) := HV2.out.next (by first | exact below_undrawn hb3 | exact hb3); obtain ⟨x0, x1, x2, x3, r0, r1, r2, r3, r4, rf, hl⟩ := HW3.out.cells; have v0 : w3.cell? ⟨BV, 0, none⟩ = some (.int .i64 k) := HV3.out.cell 0; have v1 : w3.cell? ⟨BV, 1, none⟩ = some (.int .i64 0) := HV3.out.cell 1; have v2 : w3.cell? ⟨BV, 2, none⟩ = some (.int .i64 i) := HV3.out.cell 2; have v3 : w3.cell? ⟨BV, 3, none⟩ = some (.string t) := HV3.out.cell 3; have v4 : w3.cell? ⟨BV, 4, none⟩ = some (.slice none 0 0) := HV3.out.cell 4))
      all_goals
        have hl6 : w.heap.size + 1 < w6.heap.size := HW6.out.r.lt
        have hl7 : w6.heap.size < w7.heap.size := HP7.out.lt
        have HNc : Hid (NcIs w8 (geB (w.heap.size + 2)) ⟨0, 0, 0, [], some ⟨w7.heap.size, 0, none⟩, 3, 3⟩ x) := by
          rw [Hid, HXv.out]
          refine ⟨rfl, rfl, rfl, rfl, rfl, Nat.le_refl _, ?_⟩
          refine lit_nds (L := [⟨2, 0, 0, wSlot, none, 0, 0⟩, ⟨2, 0, 0, n.data.toList, none, 0, 0⟩, ⟨0, 0, 0, [], some ⟨w6.heap.size, 0, none⟩, 2, 2⟩]) ?_ (by unfold geB; omega) ⟨nc_sym _ _ _, nc_sym _ _ _, ⟨rfl, rfl, rfl, rfl, rfl, Nat.le_refl _, ?_⟩, trivial⟩
          · show Bx w8 w7.heap.size #[.int .i64 2, .int .i64 0, .int .i64 0, .string ⟨#[115, 108, 111, 116]⟩, .slice none 0 0, .int .i64 2, .int .i64 0, .int .i64 0, .string (baL n.data.toList), .slice none 0 0, .int .i64 0, .int .i64 0, .int .i64 0, .string ⟨#[]⟩, .slice (some ⟨w6.heap.size, 0, none⟩) 2 2]
            rw [ba_self]; exact HQ8.out
          · refine lit_nds (L := [⟨2, 0, 0, wDef, none, 0, 0⟩, ⟨k, 0, i, t.data.toList, none, 0, 0⟩]) ?_ (by unfold geB; omega) ⟨nc_sym _ _ _, NcIs.leaf _ _ _ _ _ _, trivial⟩
            show Bx w8 w6.heap.size #[.int .i64 2, .int .i64 0, .int .i64 0, .string ⟨#[100, 101, 102, 97, 117, 108, 116]⟩, .slice none 0 0, .int .i64 k, .int .i64 0, .int .i64 i, .string (baL t.data.toList), .slice none 0 0]
            rw [ba_self]; exact HP8.out
        clear HP8 HQ8 HP7 hb3 hb4 hb6 hb7 hb8 HW3 HW4 HW6 HW7 HW2 HV2 HV3 HV4 HV6 HV7 HV8
        go_wp2
        exact bodyPost_ret (v := .agg #[.int .i64 (0), .int .i64 (0), .int .i64 (0), .string (⟨#[]⟩), .slice (some ⟨w7.heap.size, 0, none⟩) 3 3]) (by simp [results, Tryd.results31, go_sem, r0, r1, r2, r3, r4]) rfl (mk_done HNc.out (by omega) (by omega) _ _ _ _ _ _ rfl HW8.out.bel)
end Go.Proofs.YtlniifheapoppaaDoor
/- Package tmpl's Node. -/
namespace Go.Proofs.YtlniifheapoppaaDoor
open Go.RowKit

structure TnW (w wr : World) (tn : ByteArray) (ao : Option Addr) (M cap : Nat) (v : Value) (cs : List Nc) (xs : List Nd) : Prop where
  bel : Below w.heap.size w wr
  x : Bx wr w.heap.size #[.string tn, .slice ao M cap]
  r : Bx wr (w.heap.size + 1) #[.int .i64 0, .int .i64 0, .int .i64 0, .string ⟨#[]⟩, .slice none 0 0]
  own : wr.ownsRow (w.heap.size + 2) 48 5 v cs.length (ncsC cs)
  kids : NcsIs wr (offB (w.heap.size + 2) v) cs xs
theorem TnW.next {w wr w' : World} {tn : ByteArray} {ao : Option Addr} {M cap : Nat} {v : Value} {cs : List Nc} {xs : List Nd} (h : TnW w wr tn ao M cap v cs xs) (hb : Below wr.heap.size wr w') : TnW w w' tn ao M cap v cs xs :=
  ⟨next_trans h.bel hb, h.x.next hb, h.r.next hb, own_next h.own hb, h.kids.next hb⟩
/-- What its maker has before the loop. -/
structure TnA (w wr : World) (tn : ByteArray) (ao : Option Addr) (M cap : Nat) : Prop where
  bel : Below w.heap.size w wr
  x : Bx wr w.heap.size #[.string tn, .slice ao M cap]
  r : Bx wr (w.heap.size + 1) #[.int .i64 0, .int .i64 0, .int .i64 0, .string ⟨#[]⟩, .slice none 0 0]
theorem TnA.next {w wr w' : World} {tn : ByteArray} {ao : Option Addr} {M cap : Nat} (h : TnA w wr tn ao M cap) (hb : Below wr.heap.size wr w') : TnA w w' tn ao M cap := ⟨next_trans h.bel hb, h.x.next hb, h.r.next hb⟩
theorem tn_start {w w4 : World} {tn : ByteArray} {ao : Option Addr} {M cap : Nat} (h : TnA w w4 tn ao M cap) :
    TnW w (w4.alloc (.cells #[.int .i64 2, .int .i64 0, .int .i64 0, .string ⟨#[100, 101, 102, 116, 101, 109, 112, 108, 97, 116, 101]⟩, .slice none 0 0, .int .i64 2, .int .i64 0, .int .i64 0, .string tn, .slice none 0 0] 48)) tn ao M cap (.slice (some ⟨w4.heap.size, 0, none⟩) 2 2)
      [⟨2, 0, 0, wTmpl, none, 0, 0⟩, ⟨2, 0, 0, tn.data.toList, none, 0, 0⟩] [tsym wTmpl, tsym tn.data.toList] := by
  have hl : w.heap.size + 2 ≤ w4.heap.size := h.r.lt
  refine ⟨next_trans h.bel (alloc_below _ _), h.x.alloc _, h.r.alloc _, ?_, nc_sym _ _ _, nc_sym _ _ _, trivial⟩
  have := World.ownsRow_lit (base := w.heap.size + 2) (e := 48) (size := 5) w4 #[.int .i64 2, .int .i64 0, .int .i64 0, .string ⟨#[100, 101, 102, 116, 101, 109, 112, 108, 97, 116, 101]⟩, .slice none 0 0, .int .i64 2, .int .i64 0, .int .i64 0, .string tn, .slice none 0 0] 2 hl (by unfold maxLen; omega) rfl
  have e : ncsC [⟨2, 0, 0, wTmpl, none, 0, 0⟩, ⟨2, 0, 0, tn.data.toList, none, 0, 0⟩] = (#[.int .i64 2, .int .i64 0, .int .i64 0, .string ⟨#[100, 101, 102, 116, 101, 109, 112, 108, 97, 116, 101]⟩, .slice none 0 0, .int .i64 2, .int .i64 0, .int .i64 0, .string tn, .slice none 0 0] : Array Value).toList := by
    show [Value.int .i64 2, .int .i64 0, .int .i64 0, .string (baL wTmpl), .slice none 0 0, .int .i64 2, .int .i64 0, .int .i64 0, .string (baL tn.data.toList), .slice none 0 0] = _
    rw [ba_self]; rfl
  rw [e]; exact this
def kidsT (tn : ByteArray) (l : List Sl) : List Nd := tsym wTmpl :: tsym tn.data.toList :: l.map slotNd
theorem kidsT_snoc {tn : ByteArray} {l : List Sl} {k : Nat} {s : Sl} (h : l[k]? = some s) : kidsT tn (l.take (k + 1)) = kidsT tn (l.take k) ++ [slotNd s] := by
  obtain ⟨hk, e⟩ := List.getElem?_eq_some_iff.1 h
  unfold kidsT
  rw [List.take_succ_eq_append_getElem hk, e, List.map_append]; rfl

set_option maxHeartbeats 16000000 in
set_option maxRecDepth 8000 in
theorem tnode_any (T : Tp) (ao : Option Addr) (cap : Nat) (w : World) (hN : T.l.length ≤ 1000) (h : IsSls w ao T.l) :
    Calls Tryd.prog 15 #[tmV T ao cap] w fun e w' => MkR w w' e (tmplNd T) ∧ Below w.heap.size w w' := by
  obtain ⟨tn, l⟩ := T
  unfold tmV
  simp only at hN h ⊢
  obtain ⟨N, HN⟩ : ∃ N, Hid (l.length = N) := ⟨_, rfl⟩
  obtain ⟨x, HX⟩ : ∃ x, Hid (tmplNd ⟨tn, l⟩ = x) := ⟨_, rfl⟩
  rw [HN.out, HX.out]
  rw [HN.out] at hN
  have HI : Hid (IsSls w ao l) := h
  have HSy : Hid (∀ (Y : ByteArray) (w : World), Calls Tryd.prog 30 #[.string Y] w fun e w' => e = .returned (.agg #[.int .i64 (2), .int .i64 (0), .int .i64 (0), .string (Y), .slice none 0 0]) ∧ Below w.heap.size w w') := symbol_any
  obtain ⟨W, HWe⟩ : ∃ W, Hid ((w.alloc (.cells #[.string tn, .slice ao N cap] 26)).alloc (.cells #[.int .i64 0, .int .i64 0, .int .i64 0, .string ⟨#[]⟩, .slice none 0 0] 48) = W) := ⟨_, rfl⟩
  have HW : Hid (TnA w W tn ao N cap) := by
    refine ⟨?_, ?_, ?_⟩
    · rw [← HWe.out]; exact next_trans (alloc_below _ _) (alloc_below _ _)
    · rw [← HWe.out]; exact (Bx.made _ _ _).alloc _
    · exact Bx.made' HWe.out (by simp)
  clear h
  go_enter Tryd.func15, Tryd.ntmps15
  go_wp2_with fail
  rw [HWe.out]
  clear HWe
  have x0 : W.cell? ⟨w.heap.size, 0, none⟩ = some (.string tn) := HW.out.x.cell 0
  go_region_with (first
    | (go_at_call 30; have _g := hb3; refine (HSy.out _ _).mono ?_; rintro e w4 ⟨rfl, hb4⟩; have HW4 : Hid (TnA w w4 tn ao N cap) := HW3.out.next (by first | exact below_undrawn hb4 | exact hb4))
    | (go_at_call 30; refine (HSy.out _ _).mono ?_; rintro e w3 ⟨rfl, hb3⟩; have HW3 : Hid (TnA w w3 tn ao N cap) := HW.out.next (by first | exact below_undrawn hb3 | exact hb3); have x0 : w3.cell? ⟨w.heap.size, 0, none⟩ = some (.string tn) := HW3.out.x.cell 0))
  all_goals
    have HI0 : Hid _ := tn_start HW4.out
    have hl4 : w.heap.size + 1 < w4.heap.size := HW4.out.r.lt
    have n1 : w4.cell? ⟨w.heap.size, 1, none⟩ = some (.slice ao N cap) := HW4.out.x.cell 1
    have hl4a : w.heap.size < w4.heap.size := by omega
    clear hb3 hb4 HW3 HW x0
    go_wp2
    clear n1 hl4 hl4a
    go_loopw [3, 14] (fun v q wr => ∃ (k : Nat) (cs : List Nc), k ≤ N ∧ q = .int .i64 k ∧ Hid (TnW w wr tn ao N cap v cs (kidsT tn (l.take k)))) (fun _ q _ => N - (intOf q).toNat)
    case atStart => exact ⟨0, _, Nat.zero_le _, rfl, HI0⟩
    case round =>
      obtain ⟨k, cs, hk, rfl, HT⟩ := hrel
      clear HI0 HW4
      obtain ⟨vao, vn, vcap, hv⟩ : ∃ vao vn vcap, u3 = .slice vao vn vcap := by
        rcases HT.out.own.2 with ⟨e, _⟩ | ⟨gg, cap, cur, e, _⟩
        · exact ⟨_, _, _, e⟩
        · exact ⟨_, _, _, e⟩
      subst hv
      have hlr : w.heap.size + 1 < wr.heap.size := HT.out.r.lt
      by_cases hlt : k < N
      · have hki : (k : Int) < (N : Int) := by omega
        have hk0 : (0 : Int) ≤ (k : Int) := by omega
        obtain ⟨s, hs⟩ : ∃ s, l[k]? = some s := ⟨_, List.getElem?_eq_getElem (by rw [HN.out]; exact hlt)⟩
        obtain ⟨b, o, rfl, c0, c1, c2, c3⟩ := (HI.out.next HT.out.bel) k s hs
        have HKs : Hid (kidsT tn (l.take (k + 1)) = kidsT tn (l.take k) ++ [slotNd s]) := kidsT_snoc hs
        obtain ⟨sn, sk, si, ss⟩ := s
        simp only at c0 c1 c2 c3
        have hcl : cs.length ≤ 2000 := by
          have h1 := HT.out.kids.len
          unfold kidsT at h1
          rw [List.length_cons, List.length_cons, List.length_map, List.length_take] at h1
          omega
        clear hs
        go_wp2_with fail
        refine (slotnode_any ⟨sn, sk, si, ss⟩ _).mono ?_
        rintro e w2 ⟨⟨⟨ck, ca, ci, css, cao, cn, ccap⟩, rfl, hc⟩, hb2⟩
        have HT2 : Hid (TnW w w2 tn (some ⟨b, o, none⟩) N cap (.slice vao vn vcap) cs (kidsT tn (l.take k))) := (HT.out.next (alloc_below _ _)).next hb2
        have hlt2 : w.heap.size + 1 < w2.heap.size := HT2.out.r.lt
        have HOb : Hid (∀ j, (Value.slice vao vn vcap).ownBlock = some j → w.heap.size + 2 ≤ j ∧ j < wr.heap.size) := fun j hj => HT.out.own.lt j hj
        have hbs : wr.heap.size < w2.heap.size := by have := hb2.size; rw [World.size_alloc] at this; omega
        have HC : Hid (NcIs w2 (offB (w.heap.size + 2) (.slice vao vn vcap)) ⟨ck, ca, ci, css, cao, cn, ccap⟩ (slotNd ⟨sn, sk, si, ss⟩)) := hc.keep fun j hj _ => ⟨rfl, by have hj' : (wr.alloc _).heap.size ≤ j := hj; rw [World.size_alloc] at hj'; omega, fun e => by have := (HOb.out j e).2; have hj' : (wr.alloc _).heap.size ≤ j := hj; rw [World.size_alloc] at hj'; omega⟩
        obtain ⟨i0, hi, hz0, hz1', hz2'⟩ := inN'
        have HOw : Hid (w2.ownsRow (w.heap.size + 2) 48 5 (.slice vao vn vcap) cs.length (ncsC cs)) := HT2.out.own
        clear hb2 hc HT c0 c1 c2 c3
        unfold nodeV
        simp only
        go_wp2_with (at_builtin; refine wpList_append_lies _ rfl _ _ 40 rfl (w.heap.size + 2) 48 i0 zeroNd 5 64 Tryd.underlying40 hi hz0 hz1' hz2' rfl (by decide) _ _ _ rfl (HOw.out.alloc _) ⟨w2.heap.size, 0, none⟩ 1 1 [.int .i64 ck, .int .i64 (ca : Int), .int .i64 ci, .string (baL css), .slice cao cn ccap] rfl rfl ?c1 ?c2 (by decide) ?c3 ?c4 ?c5 _ rfl ?_)
        case c1 =>
          intro j u hj
          match j, hj with
          | 0, hj => simp at hj; subst hj; simp [Addr.add]
          | 1, hj => simp at hj; subst hj; simp [Addr.add]
          | 2, hj => simp at hj; subst hj; simp [Addr.add]
          | 3, hj => simp at hj; subst hj; simp [Addr.add]
          | 4, hj => simp at hj; subst hj; simp [Addr.add]
        case c2 => intro u hu; simp at hu; rcases hu with rfl | rfl | rfl | rfl | rfl <;> rfl
        case c3 => unfold maxLen; omega
        case c4 => omega
        case c5 => simp; omega
        intro gk gcap w3 ho hg hv3 hlt3
        have HN3 : Hid (TnW w w3 tn (some ⟨b, o, none⟩) N cap (.slice (some ⟨gk, 0, none⟩) (cs.length + 1) gcap) (cs ++ [(⟨ck, ca, ci, css, cao, cn, ccap⟩ : Nc)]) (kidsT tn (l.take (k + 1)))) := by
          have hgb : ∀ j, j < w.heap.size + 2 → w3.heap[j]? = w2.heap[j]? := fun j hj => by
            rw [hg.block j (by simp; omega) (fun e => by have := (HOb.out j e.symm).1; omega), Below.heap_alloc _ _ _ (by omega)]
          refine ⟨?_, HT2.out.x.keep (hgb _ (by omega)), HT2.out.r.keep (hgb _ (by omega)), ?_, ?_⟩
          · have hs := HT2.out.bel.size
            exact HT2.out.bel.trans (((Below.refl _ w2).alloc hs _).grown hg (by simp; omega) (fun j hj => by have := (HOb.out j hj).1; omega))
          · rw [← ncs_snoc, List.length_append]; exact ho
          · rw [HKs.out]
            exact ncs_grow ((NcsIs.snoc HC.out HT2.out.kids).next (alloc_below _ _)) hg hv3 (by simp)
        clear ho hg hv3 HT2 HOw HOb HC HKs
        go_wp2
        go_roundw
        case rel => exact ⟨k + 1, _, by omega, by go_num, HN3⟩
        case measure => simp [intOf]; omega
      · have hki : ¬ (k : Int) < (N : Int) := by omega
        obtain ⟨lao, lcap, hv, hvc, hnd⟩ := own_nds (S := geB (w.heap.size + 2)) HT.out.own (HT.out.kids.keep fun j hj _ => ⟨rfl, hj.1⟩) (fun j hj _ => hj)
        rw [List.take_of_length_le (by rw [HN.out]; omega)] at hnd hv hvc
        obtain ⟨Z, hZ⟩ : ∃ Z, (kidsT tn l).length = Z := ⟨_, rfl⟩
        rw [hZ] at hv hvc
        injection hv with hv1 hv2 hv3
        subst hv1 hv2 hv3
        have HND : Hid (IsNds wr (geB (w.heap.size + 2)) vao (kidsT tn l)) := hnd
        clear hnd
        go_wp2_with fail
        refine (list_any _ _ _ _).mono ?_
        rintro e w5 ⟨rfl, hb5⟩
        have HT5 := HT.out.next hb5
        have r0 : w5.cell? ⟨w.heap.size + 1, 0, none⟩ = some (.int .i64 0) := HT5.r.cell 0
        have r1 : w5.cell? ⟨w.heap.size + 1, 1, none⟩ = some (.int .i64 0) := HT5.r.cell 1
        have r2 : w5.cell? ⟨w.heap.size + 1, 2, none⟩ = some (.int .i64 0) := HT5.r.cell 2
        have r3 : w5.cell? ⟨w.heap.size + 1, 3, none⟩ = some (.string ⟨#[]⟩) := HT5.r.cell 3
        have r4 : w5.cell? ⟨w.heap.size + 1, 4, none⟩ = some (.slice none 0 0) := HT5.r.cell 4
        have rf := HT5.r.froz
        have HNc : Hid (NcIs w5 (geB (w.heap.size + 2)) ⟨0, 0, 0, [], vao, vn, vcap⟩ x) := by
          rw [Hid, ← HX.out]
          exact ⟨rfl, rfl, rfl, rfl, hZ.symm, hvc, HND.out.next hb5⟩
        have HB5 : Hid (Below w.heap.size w w5) := HT5.bel
        clear hb5 HT5 HT HND hZ
        go_wp2
        exact bodyPost_ret (v := .agg #[.int .i64 (0), .int .i64 (0), .int .i64 (0), .string (⟨#[]⟩), .slice vao vn vcap]) (by simp [results, Tryd.results15, go_sem, r0, r1, r2, r3, r4]) rfl (mk_done HNc.out (by omega) (by omega) _ _ _ _ _ _ rfl HB5.out)
end Go.Proofs.YtlniifheapoppaaDoor
