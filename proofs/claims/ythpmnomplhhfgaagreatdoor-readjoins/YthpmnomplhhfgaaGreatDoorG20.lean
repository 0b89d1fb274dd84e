/- The law's known: a list in a list. -/
import Derived.Deep.RegionHeld3
import Derived.Test.YthpmnomplhhfgaaGreatDoorG17
import Derived.Test.YthpmnomplhhfgaaGreatDoorG9
import Derived.Test.YthpmnomplhhfgaaGreatDoorG8
import Derived.Test.YthpmnomplhhfgaaGreatDoorG14
import Derived.Test.YthpmnomplhhfgaaGreatDoorG10
namespace Go.Proofs.YthpmnomplhhfgaaGreatDoor
open Go.RowKit

theorem read_ok (ao : Option Addr) (n cap : Nat) (l : List UInt8) (L : List Nd) (w : World) (hl : l.length = n) (h : IsB w ao l) (hn : n ≤ 65536) (hc : n ≤ cap) (hm : MaxW w) (hs : readQ l = ⟨L, 0, 0⟩) :
    Calls Tryz.prog 10 #[.slice ao n cap] w fun e w' => (∃ ao cap, e = .returned (.tuple #[.slice ao L.length cap, .nilIface]) ∧ L.length ≤ cap ∧ IsNds w' anyB ao L) ∧ Below w.heap.size w w' := by
  refine (read_any ao n cap l w hl h hn hc hm).mono ?_
  rintro e w1 ⟨hb, hr⟩
  rw [hs] at hr
  rcases hr with ⟨_, ao, cap, h1, h2, h3⟩ | ⟨hx, _⟩
  · exact ⟨⟨ao, cap, h1, h2, h3.any⟩, hb⟩
  · exact absurd rfl hx
theorem read_no (ao : Option Addr) (n cap : Nat) (l : List UInt8) (a : Nat) (f : Int) (w : World) (hl : l.length = n) (h : IsB w ao l) (hn : n ≤ 65536) (hc : n ≤ cap) (hm : MaxW w) (hs : readQ l = ⟨[], a, f⟩) (hf : f ≠ 0) :
    Calls Tryz.prog 10 #[.slice ao n cap] w fun e w' => (∃ B, e = .returned (.tuple #[.slice none 0 0, .iface 59 (.pointer (some ⟨B, 0, none⟩))]) ∧ Chain w' f [([99, 104, 97, 114], (a : Int))] (.iface 59 (.pointer (some ⟨B, 0, none⟩)))) ∧ Below w.heap.size w w' := by
  refine (read_any ao n cap l w hl h hn hc hm).mono ?_
  rintro e w1 ⟨hb, hr⟩
  rw [hs] at hr
  rcases hr with ⟨hx, _⟩ | ⟨_, B, _, h1, h2⟩
  · exact absurd hx hf
  · exact ⟨⟨B, h1, h2.chain⟩, hb⟩
theorem join_nil (w : World) : Calls Tryz.prog 46 #[.slice none 0 0, .string ⟨#[58, 32]⟩] w fun e w' => e = .returned (.string ⟨#[]⟩) ∧ w' = w := by
  go_enter Tryz.func46, Tryz.ntmps46
  go_wp2
  go_ret
  exact ⟨rfl, rfl⟩
set_option maxHeartbeats 4000000 in
theorem told_nil (w : World) : Calls Tryz.prog 28 #[.nilIface] w fun e w' => e = .returned (.string ⟨#[]⟩) ∧ Below w.heap.size w w' := by
  have HJ : Hid (∀ w, Calls Tryz.prog 46 #[.slice none 0 0, .string ⟨#[58, 32]⟩] w fun e w' => e = .returned (.string ⟨#[]⟩) ∧ w' = w) := join_nil
  go_enter Tryz.func28, Tryz.ntmps28
  go_wp2
  go_loopg [0, 3] 0 (fun gk v pv wr => v = .nilIface ∧ pv = .slice none 0 0 ∧ Hid (wr = w))
  case atStart => exact ⟨rfl, rfl, rfl⟩
  case round =>
    obtain ⟨rfl, rfl, HW⟩ := hrel
    go_wp2_with fail
    refine (HJ.out _).mono ?_
    rintro e w2 ⟨rfl, rfl⟩
    go_wp2
    go_ret
    exact ⟨rfl, by rw [HW.out]; exact Below.refl _ _⟩

/-- The two texts. -/
def k5A : List UInt8 := [40, 97, 32, 40, 98, 32, 126, 63, 120, 41, 41, 32, 53]
def k5B : List UInt8 := [40, 97]
def k5N : Nd := ⟨0, 0, 0, [], [⟨2, 1, 0, [97], []⟩, ⟨0, 3, 0, [], [⟨2, 4, 0, [98], []⟩, ⟨8, 6, 0, [], [⟨6, 7, 0, [120], []⟩]⟩]⟩]⟩
def k5I : Nd := ⟨1, 12, 5, [], []⟩
theorem read_k5A : readQ k5A = ⟨[k5N, k5I], 0, 0⟩ := by rfl
theorem read_k5B : readQ k5B = ⟨[], 0, 3⟩ := by rfl
theorem k5_ok : (readQ k5A).e = 0 := by rw [read_k5A]
theorem k5_wf : WfL [k5N, k5I] := by have := (readQ_fl k5A k5_ok).2.1; rw [read_k5A] at this; exact this
theorem k5N_txt : txtN k5N = [40, 97, 32, 40, 98, 32, 126, 63, 120, 41, 41] := by
  unfold k5N
  simp only [txtN_mk, txtB_cons, txtR_cons, txtR_nil, txtB_nil, tokL_sym, tokL_var]
  rfl
theorem itoa_one5 (d : Nat) (h : d < 10) : Lib.itoa (d : Int) = [UInt8.ofNat (48 + d)] := by
  unfold Lib.itoa
  rw [if_neg (by omega), show ((d : Int)).toNat = d by omega, Lib.decDigits_one h]
theorem k5I_txt : txtN k5I = [53] := by
  unfold k5I
  rw [txtN_mk, if_neg (by decide), if_neg (by decide), tokL_int]
  exact itoa_one5 5 (by decide)
theorem k5_lines : linesN [k5N, k5I] = [40, 97, 32, 40, 98, 32, 126, 63, 120, 41, 41, 10, 53, 10] := by
  show txtN k5N ++ 10 :: (txtN k5I ++ 10 :: []) = _
  rw [k5N_txt, k5I_txt]; rfl
theorem k5N_cnt : cntN k5N = 6 := by
  unfold k5N
  simp only [cntN_mk, cntL_cons, cntL_nil]
theorem k5I_cnt : cntN k5I = 1 := by
  unfold k5I
  simp only [cntN_mk, cntL_nil]
theorem k5_told : toldL (wordE 3) [([99, 104, 97, 114], 0)] = [99, 104, 97, 114, 32, 48, 58, 32, 115, 104, 111, 114, 116] := by
  have : Lib.itoa 0 = [48] := itoa_one5 0 (by decide)
  show [99, 104, 97, 114] ++ [32] ++ Lib.itoa 0 ++ [58, 32] ++ wordE 3 = _
  rw [this]; rfl

/-- What known asks of the nodes, at any later world. -/
structure K5C (W : World) (b o : Nat) (cap : Nat) (a0 : Option Addr) (cap0 : Nat) (F : Nat) : Prop where
  text : ∀ w', Below W.heap.size W w' → Calls Tryz.prog 17 #[.agg #[.int .i64 (0), .int .i64 (0), .int .i64 (0), .string (⟨#[]⟩), .slice a0 2 cap0]] w' fun e w2 => e = .returned (.string ⟨#[40, 97, 32, 40, 98, 32, 126, 63, 120, 41, 41]⟩) ∧ Below w'.heap.size w' w2
  head : ∀ w', Below W.heap.size W w' → Calls Tryz.prog 21 #[.agg #[.int .i64 (0), .int .i64 (0), .int .i64 (0), .string (⟨#[]⟩), .slice a0 2 cap0]] w' fun e w2 => e = .returned (.string ⟨#[97]⟩) ∧ Below w'.heap.size w' w2
  count : ∀ w', Below W.heap.size W w' → Calls Tryz.prog 19 #[.agg #[.int .i64 (0), .int .i64 (0), .int .i64 (0), .string (⟨#[]⟩), .slice a0 2 cap0]] w' fun e w2 => e = .returned (.int .i64 6) ∧ Below w'.heap.size w' w2
  lines : ∀ w', Below W.heap.size W w' → Calls Tryz.prog 23 #[.slice (some ⟨b, o, none⟩) 2 cap] w' fun e w2 => e = .returned (.string ⟨#[40, 97, 32, 40, 98, 32, 126, 63, 120, 41, 41, 10, 53, 10]⟩) ∧ Below w'.heap.size w' w2
  told : ∀ w', Below W.heap.size W w' → Calls Tryz.prog 28 #[.iface 59 (.pointer (some ⟨F, 0, none⟩))] w' fun e w2 => e = .returned (.string ⟨#[99, 104, 97, 114, 32, 48, 58, 32, 115, 104, 111, 114, 116]⟩) ∧ Below w'.heap.size w' w2
  num : ∀ w', Below W.heap.size W w' → Calls Tryz.prog 30 #[.iface 59 (.pointer (some ⟨F, 0, none⟩))] w' fun e w2 => e = .returned (.int .i64 3) ∧ Below w'.heap.size w' w2
  same : ∀ w', Below W.heap.size W w' → Calls Tryz.prog 24 #[.agg #[.int .i64 (0), .int .i64 (0), .int .i64 (0), .string (⟨#[]⟩), .slice a0 2 cap0], .agg #[.int .i64 (0), .int .i64 (0), .int .i64 (0), .string (⟨#[]⟩), .slice a0 2 cap0]] w' fun e w2 => e = .returned (.bool true) ∧ Below w'.heap.size w' w2
theorem k5C {W : World} {b o cap : Nat} {a0 : Option Addr} {cap0 F : Nat} (h4 : Lib4 W) (hc : 2 ≤ cap) (hN : IsNds W anyB (some ⟨b, o, none⟩) [k5N, k5I]) (h0 : NdAt W anyB b (o + 0 * 5) k5N a0 cap0) (hF : Chain W 3 [([99, 104, 97, 114], 0)] (.iface 59 (.pointer (some ⟨F, 0, none⟩)))) : K5C W b o cap a0 cap0 F := by
  have hw := (WfL_cons _ _).1 k5_wf
  have hcn := k5N_cnt
  have hci := k5I_cnt
  have hb1 : ∀ p ∈ [(([99, 104, 97, 114], 0) : Pt)], p.1.length ≤ 1000 ∧ inB p.2 = true := fun p hp => by
    rw [List.mem_singleton.1 hp]; exact ⟨by decide, by decide⟩
  refine ⟨fun w' h => ?_, fun w' h => ?_, fun w' h => ?_, fun w' h => ?_, fun w' h => ?_, fun w' h => ?_, fun w' h => ?_⟩
  · have := text_any5 k5N a0 cap0 w' hw.1 (tab_next h4.tab h) (by omega) (by rw [k5N_txt]; decide) h0.hc (h0.kids.next h)
    rw [k5N_txt] at this; exact this
  · exact head_any k5N a0 cap0 w' (by decide) h0.hc (h0.kids.next h)
  · have := count_any k5N a0 cap0 w' (by omega) h0.hc (h0.kids.next h)
    rw [hcn] at this; exact this
  · have := lines_any [k5N, k5I] (some ⟨b, o, none⟩) cap w' k5_wf (tab_next h4.tab h) (by rw [cntL_cons, cntL_cons, cntL_nil]; omega) (by rw [k5_lines]; decide) hc (hN.next h)
    rw [k5_lines] at this; exact this
  · have := told_chain 3 _ _ w' (hF.next h) (keep_cell h h4.err) (tab_next h4.tab h) (by decide) (by decide) (by decide) hb1
    rw [k5_told] at this; exact this
  · exact number_any 3 _ _ w' (hF.next h) (keep_cell h h4.err)
  · exact same_any5 k5N k5N a0 a0 cap0 cap0 w' (by omega) (sim_refl _) h0.hc h0.hc (h0.kids.next h) (h0.kids.next h)

set_option maxHeartbeats 16000000 in
set_option maxRecDepth 100000 in
theorem known5 (w : World) (h4 : Lib4 w) :
    Calls Tryz.prog 9 #[] w fun e w' => e = .returned (.bool true) ∧ Below w.heap.size w w' := by
  have H4 : Hid (Lib4 w) := h4
  clear h4
  have hcv := Lib.run_convert_bytes_const (P := Tryz.prog) w 22 5 #[.int .u8 40, .int .u8 97, .int .u8 32, .int .u8 40, .int .u8 98, .int .u8 32, .int .u8 126, .int .u8 63, .int .u8 120, .int .u8 41, .int .u8 41, .int .u8 32, .int .u8 53] 13 13 Tryz.underlying22 Tryz.underlying5
  simp only [List.size_toArray, List.length_cons, List.length_nil, Nat.zero_add, Nat.reduceAdd] at hcv
  go_enter Tryz.func9, Tryz.ntmps9
  go_wp2_with fail
  refine (read_ok _ 13 13 k5A [k5N, k5I] _ rfl (Bs_mark w k5A _ _ _ rfl).isB (by omega) (by omega) (H4.out.next (alloc_below _ _)).max read_k5A).mono ?_
  rintro e w1 ⟨⟨ao, cap, rfl, hc, hN⟩, hb1⟩
  have HB1 : Hid (Below w.heap.size w w1) := next_trans (alloc_below _ _) hb1
  obtain ⟨b, o, a0, cap0, rfl, hA0⟩ := hN.at (j := 0) rfl
  obtain ⟨b', o', a1, cap1, e1, hA1⟩ := hN.at (j := 1) rfl
  injection e1 with e1
  injection e1 with e1 e2 _
  subst e1 e2
  have HN : Hid (IsNds w1 anyB (some ⟨b, o, none⟩) [k5N, k5I]) := hN
  have HA0 : Hid (NdAt w1 anyB b (o + 0 * 5) k5N a0 cap0) := hA0
  have HA1 : Hid (NdAt w1 anyB b (o + 1 * 5) k5I a1 cap1) := hA1
  clear hb1 hcv hN hA0 hA1
  have hcv2 := Lib.run_convert_bytes_const (P := Tryz.prog) w1 22 5 #[.int .u8 40, .int .u8 97] 2 2 Tryz.underlying22 Tryz.underlying5
  simp only [List.size_toArray, List.length_cons, List.length_nil, Nat.zero_add, Nat.reduceAdd] at hcv2
  simp only [List.length_cons, List.length_nil, Nat.zero_add, Nat.reduceAdd] at hc ⊢
  go_wp2_with fail
  refine (read_no _ 2 2 k5B 0 3 _ rfl (Bs_mark w1 k5B _ _ _ rfl).isB (by omega) (by omega) (H4.out.next (next_trans HB1.out (alloc_below _ _))).max read_k5B (by decide)).mono ?_
  rintro e w2 ⟨⟨F, rfl, hF⟩, hb2⟩
  have HB2 : Hid (Below w1.heap.size w1 w2) := next_trans (alloc_below _ _) hb2
  have HF : Hid (Chain w2 3 [([99, 104, 97, 114], 0)] (.iface 59 (.pointer (some ⟨F, 0, none⟩)))) := hF
  have HB20 : Hid (Below w.heap.size w w2) := next_trans HB1.out HB2.out
  clear hb2 hF hcv2
  have d0 : w2.cell? ⟨b, o + 5, none⟩ = some (.int .i64 1) := keep_cell HB2.out HA1.out.c0
  have d1 : w2.cell? ⟨b, o + 5 + 1, none⟩ = some (.int .i64 12) := keep_cell HB2.out HA1.out.c1
  have d2 : w2.cell? ⟨b, o + 5 + 2, none⟩ = some (.int .i64 5) := keep_cell HB2.out HA1.out.c2
  have d3 : w2.cell? ⟨b, o + 5 + 3, none⟩ = some (.string ⟨#[]⟩) := keep_cell HB2.out HA1.out.c3
  have d4 : w2.cell? ⟨b, o + 5 + 4, none⟩ = some (.slice a1 0 cap1) := keep_cell HB2.out HA1.out.c4
  have HV : Hid (Calls Tryz.prog 13 #[.agg #[.int .i64 (1), .int .i64 (12), .int .i64 (5), .string (⟨#[]⟩), .slice a1 0 cap1]] w2 fun e w' => e = .returned (.tuple #[.agg #[.int .i64 (1), .int .i64 (5), .string (⟨#[]⟩)], .bool true]) ∧ Below w2.heap.size w2 w') := value_any5 k5I a1 cap1 w2
  go_wp2_with fail
  refine HV.out.mono ?_
  rintro e w3 ⟨rfl, hb3⟩
  obtain ⟨W, HWe⟩ : ∃ W, Hid (w3.alloc (.cells #[.int .i64 1, .int .i64 5, .string ⟨#[]⟩] 37) = W) := ⟨_, rfl⟩
  have HB3 : Hid (Below w1.heap.size w1 W) := by rw [← HWe.out]; exact next_trans (next_trans HB2.out hb3) (alloc_below _ _)
  have HB4 : Hid (Below w2.heap.size w2 W) := by rw [← HWe.out]; exact next_trans hb3 (alloc_below _ _)
  have HB0 : Hid (Below w.heap.size w W) := next_trans HB1.out HB3.out
  have v1 : W.cell? ⟨w3.heap.size, 1, none⟩ = some (.int .i64 5) := by rw [← HWe.out]; exact box0 rfl
  have HC : Hid (K5C W b o cap a0 cap0 F) := k5C (H4.out.next HB0.out) hc (HN.out.next HB3.out) (HA0.out.next HB3.out) (HF.out.next HB4.out)
  have HTn : Hid (∀ w', Calls Tryz.prog 28 #[.nilIface] w' fun e w2 => e = .returned (.string ⟨#[]⟩) ∧ Below w'.heap.size w' w2) := told_nil
  have c0 : W.cell? ⟨b, o, none⟩ = some (.int .i64 0) := keep_cell HB3.out HA0.out.c0
  have c1 : W.cell? ⟨b, o + 1, none⟩ = some (.int .i64 0) := keep_cell HB3.out HA0.out.c1
  have c2 : W.cell? ⟨b, o + 2, none⟩ = some (.int .i64 0) := keep_cell HB3.out HA0.out.c2
  have c3 : W.cell? ⟨b, o + 3, none⟩ = some (.string ⟨#[]⟩) := keep_cell HB3.out HA0.out.c3
  have c4 : W.cell? ⟨b, o + 4, none⟩ = some (.slice a0 2 cap0) := keep_cell HB3.out HA0.out.c4
  have s0 : Below W.heap.size W W.drew := (Below.refl _ _).drew
  have s1 : W.heap.size ≤ W.drew.heap.size := Nat.le_refl _
  obtain ⟨P3, HP3⟩ : ∃ P3, Hid (w3.heap.size = P3) := ⟨_, rfl⟩
  rw [HP3.out] at v1
  clear hb3 d0 d1 d2 d3 d4 HV
  go_wp2_with fail
  rw [HWe.out, HP3.out]
  go_region_held3 (fun w' => w'.cell? ⟨b, o, none⟩ = some (.int .i64 0) ∧ w'.cell? ⟨b, o + 1, none⟩ = some (.int .i64 0) ∧ w'.cell? ⟨b, o + 2, none⟩ = some (.int .i64 0) ∧ w'.cell? ⟨b, o + 3, none⟩ = some (.string ⟨#[]⟩) ∧ w'.cell? ⟨b, o + 4, none⟩ = some (.slice a0 2 cap0) ∧ w'.cell? ⟨P3, 1, none⟩ = some (.int .i64 5) ∧ Below W.heap.size W w' ∧ W.heap.size ≤ w'.heap.size)
    (((try dsimp only); go_split_ands; refine ⟨?_, ?_, ?_, ?_, ?_, ?_, ?_, ?_⟩ <;> first | assumption | exact keep_cell (by assumption) (by assumption) | exact below_next (by assumption) (by assumption) (by assumption) | exact le_next (by assumption) (by assumption)))
    (first
      | (go_at_call 17; go_split_ands; with_reducible refine (HC.out.text _ (by assumption)).mono ?_; rintro e w' ⟨rfl, hb⟩)
      | (go_at_call 21; go_split_ands; with_reducible refine (HC.out.head _ (by assumption)).mono ?_; rintro e w' ⟨rfl, hb⟩)
      | (go_at_call 19; go_split_ands; with_reducible refine (HC.out.count _ (by assumption)).mono ?_; rintro e w' ⟨rfl, hb⟩)
      | (go_at_call 23; go_split_ands; with_reducible refine (HC.out.lines _ (by assumption)).mono ?_; rintro e w' ⟨rfl, hb⟩)
      | (go_at_call 28; go_split_ands; with_reducible refine (HC.out.told _ (by assumption)).mono ?_; rintro e w' ⟨rfl, hb⟩)
      | (go_at_call 28; with_reducible refine (HTn.out _).mono ?_; rintro e w' ⟨rfl, hb⟩)
      | (go_at_call 30; go_split_ands; with_reducible refine (HC.out.num _ (by assumption)).mono ?_; rintro e w' ⟨rfl, hb⟩)
      | (go_at_call 24; go_split_ands; with_reducible refine (HC.out.same _ (by assumption)).mono ?_; rintro e w' ⟨rfl, hb⟩))
  all_goals
    go_split_ands
    go_wp2
    go_ret
    refine ⟨rfl, ?_⟩
    exact next_trans HB0.out (by assumption)
end Go.Proofs.YthpmnomplhhfgaaGreatDoor
/- Read, as the laws call it: the program's. -/
namespace Go.Proofs.YthpmnomplhhfgaaGreatDoor
open Go.RowKit

theorem errI_in {e : Int} (h : errI e) : 1 ≤ e ∧ e ≤ 11 := by rcases h with rfl | rfl | rfl | rfl <;> decide
theorem read_yes5 (ao : Option Addr) (n cap : Nat) (l : List UInt8) (L : List Nd) (w : World) (hl : l.length = n) (h : IsB w ao l) (hn : n ≤ 65536) (hc : n ≤ cap) (hm : MaxW w) (a : Nat) (hs : readQ l = ⟨L, a, 0⟩) :
    Calls Tryz.prog 10 #[.slice ao n cap] w fun e w' => (∃ ao cap, e = .returned (.tuple #[.slice ao L.length cap, .nilIface]) ∧ L.length ≤ cap ∧ IsNds w' anyB ao L) ∧ Below w.heap.size w w' := by
  refine (read_any ao n cap l w hl h hn hc hm).mono ?_
  rintro e w1 ⟨hb, hr⟩
  rw [hs] at hr
  rcases hr with ⟨_, ao, cap, h1, h2, h3⟩ | ⟨hx, _⟩
  · exact ⟨⟨ao, cap, h1, h2, h3.any⟩, hb⟩
  · exact absurd rfl hx
theorem read_no5 (ao : Option Addr) (n cap : Nat) (l : List UInt8) (R : OutN) (w : World) (hl : l.length = n) (h : IsB w ao l) (hn : n ≤ 65536) (hc : n ≤ cap) (hm : MaxW w) (hs : readQ l = R) (hf : R.e ≠ 0) :
    Calls Tryz.prog 10 #[.slice ao n cap] w fun e w' => (∃ B, e = .returned (.tuple #[.slice none 0 0, .iface 59 (.pointer (some ⟨B, 0, none⟩))]) ∧ Chain w' R.e [([99, 104, 97, 114], (R.a : Int))] (.iface 59 (.pointer (some ⟨B, 0, none⟩)))) ∧ Below w.heap.size w w' := by
  refine (read_any ao n cap l w hl h hn hc hm).mono ?_
  rintro e w1 ⟨hb, hr⟩
  rw [hs] at hr
  rcases hr with ⟨hx, _⟩ | ⟨_, B, _, h1, h2⟩
  · exact absurd hx hf
  · exact ⟨⟨B, h1, h2.chain⟩, hb⟩
/-- Read of a string's bytes. -/
theorem read_conv (X : ByteArray) (T : List UInt8) (L : List Nd) (w : World) (N : Nat) (hN : X.size = N) (hX : X = baL T) (hn : T.length ≤ 65536) (hm : MaxW w) (hs : readQ T = ⟨L, 0, 0⟩) :
    Calls Tryz.prog 10 #[.slice (some ⟨w.heap.size, 0, none⟩) N (grownCap w N 0 5)] (Lib.bytesWorld w 5 X) fun e w' => (∃ ao cap, e = .returned (.tuple #[.slice ao L.length cap, .nilIface]) ∧ L.length ≤ cap ∧ IsNds w' anyB ao L) ∧ Below w.heap.size w w' := by
  subst hN
  subst hX
  refine (read_ok (some ⟨w.heap.size, 0, none⟩) (baL T).size _ T L _ rfl (conv_is T w).isB hn (grownCap_ge _ _ _ _) (hm.next (conv_bel _ _)) hs).mono ?_
  rintro e w1 ⟨h1, hb⟩
  exact ⟨h1, next_trans (conv_bel _ _) hb⟩
theorem read_conv_no (X : ByteArray) (T : List UInt8) (a : Nat) (f : Int) (w : World) (N : Nat) (hN : X.size = N) (hX : X = baL T) (hn : T.length ≤ 65536) (hm : MaxW w) (hs : readQ T = ⟨[], a, f⟩) (hf : f ≠ 0) :
    Calls Tryz.prog 10 #[.slice (some ⟨w.heap.size, 0, none⟩) N (grownCap w N 0 5)] (Lib.bytesWorld w 5 X) fun e w' => (∃ B, e = .returned (.tuple #[.slice none 0 0, .iface 59 (.pointer (some ⟨B, 0, none⟩))]) ∧ Chain w' f [([99, 104, 97, 114], (a : Int))] (.iface 59 (.pointer (some ⟨B, 0, none⟩)))) ∧ Below w.heap.size w w' := by
  subst hN
  subst hX
  refine (read_no (some ⟨w.heap.size, 0, none⟩) (baL T).size _ T a f _ rfl (conv_is T w).isB hn (grownCap_ge _ _ _ _) (hm.next (conv_bel _ _)) hs hf).mono ?_
  rintro e w1 ⟨h1, hb⟩
  exact ⟨h1, next_trans (conv_bel _ _) hb⟩
end Go.Proofs.YthpmnomplhhfgaaGreatDoor
