/- Package tmpl's Parse. -/
import Derived.Test.YtlniifheapoppaaDoorG23
namespace Go.Proofs.YtlniifheapoppaaDoor
open Go.RowKit

theorem parT_head {x : Nd} (h : headN x ≠ wTmpl) : parT x = .error (x.a, 2) := by unfold parT; rw [if_neg h]
theorem parT_len {x : Nd} (h : x.l.length < 2) : parT x = .error (x.a, 2) := by
  obtain ⟨k, a, i, s, l⟩ := x
  simp only at h
  unfold parT
  split
  · match l, h with
    | [], _ => rfl
    | [_], _ => rfl
  · rfl
theorem parT_name {x m : Nd} (h1 : x.l[1]? = some m) (hn : nameB m = false) : parT x = .error (x.a, 2) := by
  obtain ⟨k, a, i, s, l⟩ := x
  simp only at h1
  unfold parT
  split
  · match l, h1 with
    | [], _ => rfl
    | [_], _ => rfl
    | _ :: y :: r, h1 => simp at h1; subst h1; simp [hn]
  · rfl
theorem parT_go {x m : Nd} (h : headN x = wTmpl) (h1 : x.l[1]? = some m) (hn : nameB m = true) : parT x = match runT [] (x.l.drop 2) with
    | .ok l => .ok ⟨baL m.s, l⟩
    | .error p => .error p := by
  obtain ⟨k, a, i, s, l⟩ := x
  simp only at h1
  match l, h1 with
  | [], h1 => simp at h1
  | [_], h1 => simp at h1
  | _ :: y :: r, h1 =>
    simp at h1; subst h1
    unfold parT
    rw [if_pos h]
    simp only [hn, if_true]
    rfl
theorem run_step {acc : List Sl} {l : List Nd} {k : Nat} {x : Nd} (h : l[k]? = some x) : runT acc (l.drop k) = match slotR acc x with
    | .error e => .error (x.a, e)
    | .ok s => runT (acc ++ [s]) (l.drop (k + 1)) := by
  obtain ⟨hk, e⟩ := List.getElem?_eq_some_iff.1 h
  rw [List.drop_eq_getElem_cons hk, e]
  rfl
theorem slotE_ok {acc : List Sl} {x : Nd} {s : Sl} (h : slotE acc x = (s, 0)) : slotR acc x = .ok s := by
  unfold slotE at h
  split at h
  · cases h; assumption
  · rename_i e he
    cases h
    unfold slotR at he
    split at he
    · cases he
    · split at he
      · cases he
      · split at he <;> cases he
theorem slotE_bad {acc : List Sl} {x : Nd} {s : Sl} {e : Int} (h : slotE acc x = (s, e)) (he : e ≠ 0) : slotR acc x = .error e := by
  unfold slotE at h
  split at h
  · cases h; exact absurd rfl he
  · cases h; assumption
/-- Nodes from one on. -/
def fromD (ao : Option Addr) (cap k : Nat) : Option Addr := if cap = k then ao else ao.map (fun a => a.add (k * 5))
theorem nodes_from (ao : Option Addr) (n cap k : Nat) (K : Int) (w : World) (hK : K = (k : Int)) (hk : k ≤ n) :
    (Instr.slice 40 (.slice ao n cap) (some (.int .i64 K)) none none).run Tryd.prog w = .ok (.slice (fromD ao cap k) (n - k) (cap - k)) w := by
  subst hK
  have hz : Tryd.t48.size = 5 := by kernel_rfl
  have h := run_slice_l (P := Tryd.prog) w 40 ao n cap (by kernel_rfl) .i64 (k : Int) (by omega) (by omega)
  rw [h]
  have he : Tryd.prog.elem 40 = 48 := by kernel_rfl
  rw [he]
  simp [sizeOf, hz, sliced, fromD, Result.andThen]
theorem NdsAt.dropD {w : World} {S : Nat → Prop} {b : Nat} : ∀ {l : List Nd} {o : Nat} (k : Nat), NdsAt w S b o l → NdsAt w S b (o + k * 5) (l.drop k)
  | l, o, 0, h => by rw [Nat.zero_mul, Nat.add_zero, List.drop_zero]; exact h
  | [], o, k + 1, _ => by rw [List.drop_nil]; exact NdsAt_nil _ _ _ _
  | ⟨k', a, i, s, l⟩ :: r, o, k + 1, h => by
    rw [NdsAt_cons] at h
    rw [List.drop_succ_cons, show o + (k + 1) * 5 = o + 5 + k * 5 by omega]
    exact NdsAt.dropD k h.2.2
theorem IsNds.dropD {w : World} {S : Nat → Prop} {ao : Option Addr} {l : List Nd} {cap : Nat} (h : IsNds w S ao l) (hc : l.length ≤ cap) (k : Nat) : IsNds w S (fromD ao cap k) (l.drop k) := by
  obtain ⟨b, o, h1, h2⟩ := h
  refine ⟨b, o + k * 5, fun hne => ?_, h2.dropD k⟩
  have hl : k < l.length := by
    rcases Nat.lt_or_ge k l.length with h | h
    · exact h
    · exact absurd (List.drop_eq_nil_of_le h) hne
  have ha := h1 (by rintro rfl; simp at hl)
  subst ha
  unfold fromD
  rw [if_neg (by omega)]
  exact congrArg some (Go.WideShapes.add_plain ..)
/-- What Parse tells. -/
structure TpR (x : Nd) (w w' : World) (e : Ending) : Prop where
  bel : Below w.heap.size w w'
  res : (∃ t ao cap, parT x = .ok t ∧ e = .returned (.tuple #[tmV t ao cap, .nilIface]) ∧ t.l.length ≤ cap ∧ IsSls w' ao t.l) ∨
    (∃ (a : Nat) (f : Int) (B : Nat), parT x = .error (a, f) ∧ e = .returned (.tuple #[.agg #[.string ⟨#[]⟩, .slice none 0 0], .iface 92 (.pointer (some ⟨B, 0, none⟩))]) ∧ FaultAt w' B (a : Int) f)
theorem tp_fault {x : Nd} {w w3 : World} {a : Nat} {f : Int} {b B : Nat} (he : parT x = .error (a, f)) (hB : Below w.heap.size w w3) (hb : w.heap.size ≤ b) (hn : B ≠ b) (hf : FaultAt w3 B (a : Int) f) :
    TpR x w ((w3.setCell ⟨b, 0, none⟩ (.string ⟨#[]⟩)).setCell ⟨b, 1, none⟩ (.slice none 0 0)) (.returned (.tuple #[.agg #[.string ⟨#[]⟩, .slice none 0 0], .iface 92 (.pointer (some ⟨B, 0, none⟩))])) := by
  refine ⟨set_bel (set_bel hB hb) hb, .inr ⟨a, f, B, he, rfl, ?_⟩⟩
  unfold FaultAt at hf ⊢
  rw [Below.heap_setCell _ _ _ _ hn, Below.heap_setCell _ _ _ _ hn]; exact hf
/-- .. in its loop. -/
structure TpW (w wr : World) (K A I : Int) (Y : ByteArray) (ao : Option Addr) (M cap TB : Nat) (tn : ByteArray) (v : Value) (acc : List Sl) : Prop where
  bel : Below w.heap.size w wr
  n : Bx wr w.heap.size #[.int .i64 K, .int .i64 A, .int .i64 I, .string Y, .slice ao M cap]
  r : Bx wr (w.heap.size + 1) #[.string ⟨#[]⟩, .slice none 0 0]
  t : Bx wr TB #[.string tn, v]
  own : wr.ownsRow (TB + 1) 32 4 v acc.length (slsC acc)
  lt : w.heap.size + 1 < TB
theorem TpW.next {w wr w' : World} {K A I : Int} {Y : ByteArray} {ao : Option Addr} {M cap TB : Nat} {tn : ByteArray} {v : Value} {acc : List Sl} (h : TpW w wr K A I Y ao M cap TB tn v acc) (hb : Below wr.heap.size wr w') : TpW w w' K A I Y ao M cap TB tn v acc :=
  ⟨next_trans h.bel hb, h.n.next hb, h.r.next hb, h.t.next hb, own_next h.own hb, h.lt⟩

set_option maxHeartbeats 8000000 in
set_option maxRecDepth 8000 in
theorem tparse_any (x : Nd) (ao : Option Addr) (cap : Nat) (w : World) (hb : cntN x ≤ 100000) (hs : ∀ y ∈ x.l, y.s.length ≤ 300000 ∧ ∀ z ∈ y.l, z.s.length ≤ 300000) (hc : x.l.length ≤ cap) (hk : IsNds w anyB ao x.l) :
    Calls Tryd.prog 10 #[ndV x ao cap] w fun e w' => TpR x w w' e := by
  have hcl : x.l.length ≤ 100000 := by have h1 := cntL_len x.l; unfold cntN at hb; omega
  have HKid : Hid (∀ y ∈ x.l, (y.s.length ≤ 300000 ∧ ∀ z ∈ y.l, z.s.length ≤ 300000) ∧ cntN y ≤ 100000) := fun y hy => ⟨hs y hy, by have h1 := cntL_mem x.l y hy; unfold cntN at hb; omega⟩
  obtain ⟨K, A, I, Y, M, H, Hx⟩ := nd_open x ao cap
  obtain ⟨X, HX⟩ : ∃ X, Hid (baL (headN x) = X) := ⟨_, rfl⟩
  have HHd : Hid (∀ w', Below w.heap.size w w' → Calls Tryd.prog 21 #[.agg #[.int .i64 (K), .int .i64 (A), .int .i64 (I), .string (Y), .slice ao M cap]] w' fun e w2 => e = .returned (.string X) ∧ Below w'.heap.size w' w2) := by
    rw [← H.out, ← HX.out]; exact fun w' h => head_any x ao cap w' (by omega) hc (hk.next h)
  have hML := Hx.out.2.2.2.2
  have HCL : Hid (x.l.length ≤ cap) := hc
  rw [hML] at hcl hc
  have HK : Hid (IsNds w anyB ao x.l) := hk
  rw [H.out]
  have HAx : Hid ((x.a : Int) = A) := Hx.out.2.1
  have HMx : Hid (x.l.length = M) := hML
  obtain ⟨W, HWe⟩ : ∃ W, Hid ((w.alloc (.cells #[.int .i64 K, .int .i64 A, .int .i64 I, .string Y, .slice ao M cap] 48)).alloc (.cells #[.string ⟨#[]⟩, .slice none 0 0] 26) = W) := ⟨_, rfl⟩
  have HB : Hid (Below w.heap.size w W) := by rw [← HWe.out]; exact next_trans (alloc_below _ _) (alloc_below _ _)
  have HN : Hid (Bx W w.heap.size #[.int .i64 K, .int .i64 A, .int .i64 I, .string Y, .slice ao M cap]) := by rw [← HWe.out]; exact (Bx.made _ _ _).alloc _
  have HR : Hid (Bx W (w.heap.size + 1) #[.string ⟨#[]⟩, .slice none 0 0]) := Bx.made' HWe.out (by simp)
  clear hk hML hs hb Hx H
  go_enter Tryd.func10, Tryd.ntmps10
  go_wp2_with fail
  rw [HWe.out]
  clear HWe
  refine (HHd.out W HB.out).mono ?_
  rintro e w1 ⟨rfl, hb1⟩
  have HB1 : Hid (Below w.heap.size w w1) := next_trans HB.out hb1
  have HN1 : Hid (Bx w1 w.heap.size #[.int .i64 K, .int .i64 A, .int .i64 I, .string Y, .slice ao M cap]) := HN.out.next hb1
  have HR1 : Hid (Bx w1 (w.heap.size + 1) #[.string ⟨#[]⟩, .slice none 0 0]) := HR.out.next hb1
  have hlt : w.heap.size + 1 < w1.heap.size := HR1.out.lt
  have n1 : w1.cell? ⟨w.heap.size, 1, none⟩ = some (.int .i64 A) := HN1.out.cell 1
  have n4 : w1.cell? ⟨w.heap.size, 4, none⟩ = some (.slice ao M cap) := HN1.out.cell 4
  clear hb1 HHd HN HR HB
  by_cases hh : headN x = wTmpl
  case neg =>
    have hx : (X.toList == [100, 101, 102, 116, 101, 109, 112, 108, 97, 116, 101]) = false := s_ne HX hh
    have HE : Hid (parT x = .error (x.a, 2)) := parT_head hh
    clear HX hh HK HKid
    go_wp2_with fail
    refine (tfault_any A 2 w1).mono ?_
    rintro e w2 ⟨rfl, hf2, hb2⟩
    have HR2 := HR1.out.next hb2
    have r0 : w2.cell? ⟨w.heap.size + 1, 0, none⟩ = some (.string ⟨#[]⟩) := HR2.cell 0
    have r1 : w2.cell? ⟨w.heap.size + 1, 1, none⟩ = some (.slice none 0 0) := HR2.cell 1
    have rf := HR2.froz
    have HB2 : Hid (Below w.heap.size w w2) := next_trans HB1.out hb2
    have HF2 : Hid (FaultAt w2 w1.heap.size (x.a : Int) 2) := by rw [HAx.out]; exact hf2
    clear hb2 HR2 HR1 HN1 n1 n4 hf2
    go_wp2
    exact bodyPost_ret (v := .tuple #[.agg #[.string ⟨#[]⟩, .slice none 0 0], .iface 92 (.pointer (some ⟨w1.heap.size, 0, none⟩))]) (by simp [results, Tryd.results10, go_sem, r0, r1]) rfl (tp_fault HE.out HB2.out (by omega) (by omega) HF2.out)
  have hx : (X.toList == [100, 101, 102, 116, 101, 109, 112, 108, 97, 116, 101]) = true := s_eq HX hh
  by_cases hm : M < 2
  case pos =>
    have hmi : (M : Int) < 2 := by omega
    have HE : Hid (parT x = .error (x.a, 2)) := parT_len (by rw [HMx.out]; exact hm)
    clear HX hh HK HKid
    go_wp2_with fail
    refine (tfault_any A 2 w1).mono ?_
    rintro e w2 ⟨rfl, hf2, hb2⟩
    have HR2 := HR1.out.next hb2
    have r0 : w2.cell? ⟨w.heap.size + 1, 0, none⟩ = some (.string ⟨#[]⟩) := HR2.cell 0
    have r1 : w2.cell? ⟨w.heap.size + 1, 1, none⟩ = some (.slice none 0 0) := HR2.cell 1
    have rf := HR2.froz
    have HB2 : Hid (Below w.heap.size w w2) := next_trans HB1.out hb2
    have HF2 : Hid (FaultAt w2 w1.heap.size (x.a : Int) 2) := by rw [HAx.out]; exact hf2
    clear hb2 HR2 HR1 HN1 n1 n4 hf2
    go_wp2
    exact bodyPost_ret (v := .tuple #[.agg #[.string ⟨#[]⟩, .slice none 0 0], .iface 92 (.pointer (some ⟨w1.heap.size, 0, none⟩))]) (by simp [results, Tryd.results10, go_sem, r0, r1]) rfl (tp_fault HE.out HB2.out (by omega) (by omega) HF2.out)
  have hmi : ¬ (M : Int) < 2 := by omega
  obtain ⟨m, hm1⟩ := kid_at (l := x.l) (j := 1) (by rw [HMx.out]; omega)
  have HM1 : Hid (x.l[1]? = some m) := hm1
  obtain ⟨b, o, va, vc, K1, A1, I1, Y1, M1, rfl, H1, Hv, hw1, Hk1⟩ := kid_get (HK.out.next HB1.out) hm1
  have hm1s := (HKid.out m (List.mem_of_getElem? hm1)).1.1
  obtain ⟨N, HNm⟩ : ∃ N, Hid (nameB m = N) := ⟨_, rfl⟩
  have HV : Hid (∀ w', Calls Tryd.prog 22 #[.agg #[.int .i64 (K1), .int .i64 (A1), .int .i64 (I1), .string (Y1), .slice va M1 vc]] w' fun e w2 => e = .returned (.bool N) ∧ Below w'.heap.size w' w2) := by
    rw [← H1.out, ← HNm.out]; exact fun w' => isname_any m va vc w' hm1s
  have HY1 : Hid (baL m.s = Y1) := Hv.out.2.2.2.1
  have HW1 : Hid (KidW w1 b (o + 1 * 5) K1 A1 I1 Y1 va M1 vc) := hw1
  obtain ⟨c0, c1, c2, c3, c4⟩ := hw1
  clear H1 Hv Hk1 hm1 hm1s
  go_wp2_with fail
  refine (HV.out w1).mono ?_
  rintro e w2 ⟨rfl, hb2⟩
  have HB2 : Hid (Below w.heap.size w w2) := next_trans HB1.out hb2
  have HN2 : Hid (Bx w2 w.heap.size #[.int .i64 K, .int .i64 A, .int .i64 I, .string Y, .slice (some ⟨b, o, none⟩) M cap]) := HN1.out.next hb2
  have HR2 : Hid (Bx w2 (w.heap.size + 1) #[.string ⟨#[]⟩, .slice none 0 0]) := HR1.out.next hb2
  have hlt2 : w.heap.size + 1 < w2.heap.size := HR2.out.lt
  have HW2 : Hid (KidW w2 b (o + 1 * 5) K1 A1 I1 Y1 va M1 vc) := HW1.out.next hb2
  clear n1 n4 c0 c1 c2 c3 c4 hb2 HN1 HR1 HW1 HB1 hlt HV hx HX
  have n1 : w2.cell? ⟨w.heap.size, 1, none⟩ = some (.int .i64 A) := HN2.out.cell 1
  have n4 : w2.cell? ⟨w.heap.size, 4, none⟩ = some (.slice (some ⟨b, o, none⟩) M cap) := HN2.out.cell 4
  cases N with
  | false =>
    have HE : Hid (parT x = .error (x.a, 2)) := parT_name HM1.out HNm.out
    clear hh HK HKid HW2 HM1 HNm HY1
    go_wp2_with fail
    refine (tfault_any A 2 w2).mono ?_
    rintro e w3 ⟨rfl, hf3, hb3⟩
    have HR3 := HR2.out.next hb3
    have r0 : w3.cell? ⟨w.heap.size + 1, 0, none⟩ = some (.string ⟨#[]⟩) := HR3.cell 0
    have r1 : w3.cell? ⟨w.heap.size + 1, 1, none⟩ = some (.slice none 0 0) := HR3.cell 1
    have rf := HR3.froz
    have HB3 : Hid (Below w.heap.size w w3) := next_trans HB2.out hb3
    have HF3 : Hid (FaultAt w3 w2.heap.size (x.a : Int) 2) := by rw [HAx.out]; exact hf3
    clear hb3 HR3 HR2 HN2 n1 n4 hf3
    go_wp2
    exact bodyPost_ret (v := .tuple #[.agg #[.string ⟨#[]⟩, .slice none 0 0], .iface 92 (.pointer (some ⟨w2.heap.size, 0, none⟩))]) (by simp [results, Tryd.results10, go_sem, r0, r1]) rfl (tp_fault HE.out HB3.out (by omega) (by omega) HF3.out)
  | true =>
    obtain ⟨L, HL⟩ : ∃ L, Hid (x.l.drop 2 = L) := ⟨_, rfl⟩
    have HP : Hid (parT x = match runT [] L with
      | .ok l => .ok ⟨Y1, l⟩
      | .error p => .error p) := by rw [Hid, ← HL.out, ← HY1.out]; exact parT_go hh HM1.out HNm.out
    have HLn : Hid (L.length = M - 2) := by rw [Hid, ← HL.out, List.length_drop, HMx.out]
    have HKL : Hid (∀ y ∈ L, (y.s.length ≤ 300000 ∧ ∀ z ∈ y.l, z.s.length ≤ 300000) ∧ cntN y ≤ 100000) := fun y hy => HKid.out y (by rw [← HL.out] at hy; exact List.mem_of_mem_drop hy)
    have HKN : Hid (IsNds w anyB (fromD (some ⟨b, o, none⟩) cap 2) L) := by rw [Hid, ← HL.out]; exact HK.out.dropD HCL.out 2
    have hsl : ∀ w, (Instr.slice 40 (.slice (some ⟨b, o, none⟩) M cap) (some (.int .i64 2)) none none).run Tryd.prog w = .ok (.slice (fromD (some ⟨b, o, none⟩) cap 2) (M - 2) (cap - 2)) w := fun w => nodes_from _ _ _ 2 2 w rfl (by omega)
    obtain ⟨c0, c1, c2, c3, c4⟩ := HW2.out
    obtain ⟨W3, HW3⟩ : ∃ W3, Hid (w2.alloc (.cells #[.string Y1, .slice none 0 0] 26) = W3) := ⟨_, rfl⟩
    obtain ⟨TB, HTB⟩ : ∃ TB, Hid (w2.heap.size = TB) := ⟨_, rfl⟩
    have HT0 : Hid (TpW w W3 K A I Y (some ⟨b, o, none⟩) M cap TB Y1 (.slice none 0 0) []) := by
      rw [Hid, ← HW3.out]
      exact ⟨next_trans HB2.out (alloc_below _ _), HN2.out.alloc _, HR2.out.alloc _, Bx.made' rfl HTB.out, World.ownsRow_nil _ _ _ _, by rw [← HTB.out]; exact hlt2⟩
    have m4 : (w2.alloc (.cells #[.string Y1, .slice none 0 0] 26)).cell? ⟨w.heap.size, 4, none⟩ = some (.slice (some ⟨b, o, none⟩) M cap) := (HN2.out.alloc _).cell 4
    clear HN2 HR2 HB2 HK HKid HM1 HNm HY1 HCL HMx HL hh
    obtain ⟨fo, Hfo⟩ : ∃ fo, Hid (fromD (some ⟨b, o, none⟩) cap 2 = fo) := ⟨_, rfl⟩
    rw [Hfo.out] at hsl HKN
    clear Hfo
    obtain ⟨N, HN⟩ : ∃ N, Hid (M - 2 = N) := ⟨_, rfl⟩
    rw [HN.out] at hsl HLn
    have hNb : N ≤ 100000 := by have := HN.out; omega
    clear HN
    go_wp2
    rw [HW3.out, HTB.out]
    clear HW3 HTB m4 c0 c1 c2 c3 c4 HW2 n1 n4 hsl
    go_loopw [40] (fun q wr => ∃ (k : Nat) (acc : List Sl) (v : Value), k ≤ N ∧ q = .int .i64 k ∧ acc.length ≤ 16 ∧ Hid (TpW w wr K A I Y (some ⟨b, o, none⟩) M cap TB Y1 v acc) ∧ Hid (runT acc (L.drop k) = runT [] L)) (fun q _ => N - (intOf q).toNat)
    case atStart => exact ⟨0, [], _, Nat.zero_le _, rfl, Nat.zero_le _, HT0, by rw [Hid, List.drop_zero]⟩
    case round =>
      obtain ⟨k, acc, v, hk, rfl, hak, HT, HRun⟩ := hrel
      clear HT0
      have hlt3 := HT.out.lt
      have htb := HT.out.t.lt
      by_cases hlt : k < N
      · have hki : (k : Int) < (N : Int) := by omega
        have hk0 : (0 : Int) ≤ (k : Int) := by omega
        obtain ⟨y, hy⟩ := kid_at (l := L) (j := k) (by rw [HLn.out]; exact hlt)
        obtain ⟨b2, o2, ya, yc, K2, A2, I2, Y2, M2, rfl, H2, Hy2, hw2, Hk2⟩ := kid_get (HKN.out.next HT.out.bel) hy
        have hyk := HKL.out y (List.mem_of_getElem? hy)
        have HYk : Hid (L[k]? = some y) := hy
        obtain ⟨to, tc, hv, hsl2, hcap2⟩ := own_sls rfl HT.out.own
        subst hv
        obtain ⟨E, HE⟩ : ∃ E, Hid (slotE acc y = E) := ⟨_, rfl⟩
        obtain ⟨⟨en, ek, ei, es⟩, ee⟩ := E
        obtain ⟨C, HC⟩ : ∃ C, Hid (acc.length = C) := ⟨_, rfl⟩
        have HPn : Hid (∀ w', Below wr.heap.size wr w' → Calls Tryd.prog 24 #[.agg #[.string Y1, .slice to C tc], .agg #[.int .i64 (K2), .int .i64 (A2), .int .i64 (I2), .string (Y2), .slice ya M2 yc]] w' fun e w2 => e = .returned (.tuple #[.agg #[.string en, .int .i64 ek, .int .i64 ei, .string es], .int .i64 ee]) ∧ Below w'.heap.size w' w2) := by
          intro w' hw
          have := pnext_any ⟨Y1, acc⟩ to tc y ya yc w' (by show acc.length ≤ 1000; omega) (hsl2.next hw) hyk.2 hyk.1.2 Hk2.out.1 (Hk2.out.2.next hw)
          unfold tmV slV at this
          simp only at this
          rw [HE.out, H2.out, HC.out] at this
          exact this
        have HA2 : Hid ((y.a : Int) = A2) := Hy2.out.2.1
        obtain ⟨c0, c1, c2, c3, c4⟩ := hw2
        have HTa : Hid (TpW w (wr.alloc (.cells #[.int .i64 K2, .int .i64 A2, .int .i64 I2, .string Y2, .slice ya M2 yc] 48)) K A I Y (some ⟨b, o, none⟩) M cap TB Y1 (.slice to acc.length tc) acc) := HT.out.next (alloc_below _ _)
        have t0 : (wr.alloc (.cells #[.int .i64 K2, .int .i64 A2, .int .i64 I2, .string Y2, .slice ya M2 yc] 48)).cell? ⟨TB, 0, none⟩ = some (.string Y1) := HTa.out.t.cell 0
        have t1 : (wr.alloc (.cells #[.int .i64 K2, .int .i64 A2, .int .i64 I2, .string Y2, .slice ya M2 yc] 48)).cell? ⟨TB, 1, none⟩ = some (.slice to C tc) := by rw [← HC.out]; exact HTa.out.t.cell 1
        clear hy hyk hsl2 hcap2 H2 Hy2 Hk2
        go_wp2_with fail
        refine (HPn.out _ (alloc_below _ _)).mono ?_
        rintro e w5 ⟨rfl, hb5⟩
        have HT5 : Hid (TpW w w5 K A I Y (some ⟨b, o, none⟩) M cap TB Y1 (.slice to acc.length tc) acc) := HTa.out.next hb5
        obtain ⟨BK, HBK⟩ : ∃ BK, Hid (wr.heap.size = BK) := ⟨_, rfl⟩
        have HK5 : Hid (Bx w5 BK #[.int .i64 K2, .int .i64 A2, .int .i64 I2, .string Y2, .slice ya M2 yc]) := by rw [← HBK.out]; exact (Bx.made _ _ _).next hb5
        rw [HBK.out]
        have hlt5 : TB < w5.heap.size := HT5.out.t.lt
        clear hb5 c0 c1 c2 c3 c4 t0 t1 HTa HPn HT HBK htb
        by_cases hee : ee = 0
        · subst hee
          have HSl : Hid (slotR acc y = .ok ⟨en, ek, ei, es⟩) := slotE_ok HE.out
          have HRun2 : Hid (runT (acc ++ [⟨en, ek, ei, es⟩]) (L.drop (k + 1)) = runT [] L) := by
            have := HRun.out
            rw [run_step HYk.out, HSl.out] at this
            exact this
          have h16 := (slotR_ok HSl.out).2.2
          have t1 : (w5.alloc (.cells #[.string en, .int .i64 ek, .int .i64 ei, .string es] 32)).cell? ⟨TB, 1, none⟩ = some (.slice to C tc) := by rw [← HC.out]; exact (HT5.out.t.alloc _).cell 1
          obtain ⟨i0, hi, hz0, hz1, hz2⟩ := infoSl'
          have HO5 : Hid (w5.ownsRow (TB + 1) 32 4 (.slice to C tc) C (slsC acc)) := by have := HT5.out.own; rw [HC.out] at this; exact this
          have hC16 : C ≤ 16 := by rw [← HC.out]; exact hak
          have HOb : Hid (∀ k, (Value.slice to C tc).ownBlock = some k → TB + 1 ≤ k ∧ k < w5.heap.size) := fun k hk => HO5.out.lt k hk
          go_wp2_with (at_builtin; refine wpList_append_own _ rfl _ _ 24 rfl (TB + 1) 32 i0 zeroSl 4 48 Tryd.underlying24 hi hz0 hz1 hz2 rfl (by decide) _ _ _ rfl ((HO5.out.alloc _).alloc _) ⟨w5.heap.size + 1, 0, none⟩ 1 1 [.string en, .int .i64 ek, .int .i64 ei, .string es] rfl rfl ?c1 ?c2 ?c3 ?c4 ?c5 ?_)
          case c1 =>
            intro j u hj
            match j, hj with
            | 0, hj => simp at hj; subst hj; simp [Addr.add]
            | 1, hj => simp at hj; subst hj; simp [Addr.add]
            | 2, hj => simp at hj; subst hj; simp [Addr.add]
            | 3, hj => simp at hj; subst hj; simp [Addr.add]
          case c2 => intro u hu; simp at hu; rcases hu with rfl | rfl | rfl | rfl <;> rfl
          case c3 => unfold maxLen; omega
          case c4 => omega
          case c5 => simp; omega
          intro s2 w7 ho hg _
          have HO7 : Hid (w7.ownsRow (TB + 1) 32 4 s2 (acc ++ [(⟨en, ek, ei, es⟩ : Sl)]).length (slsC (acc ++ [(⟨en, ek, ei, es⟩ : Sl)]))) := by
            rw [← slsC_snoc, Hid, List.length_append, HC.out]; exact ho
          have hlC : (acc ++ [(⟨en, ek, ei, es⟩ : Sl)]).length = C + 1 := by rw [List.length_append, HC.out]; rfl
          replace ho : w7.ownsRow (TB + 1) 32 4 s2 (C + 1) (slsC (acc ++ [(⟨en, ek, ei, es⟩ : Sl)])) := by rw [← slsC_snoc]; exact ho
          obtain ⟨so, sc, hs2, _, _⟩ := own_sls hlC ho
          subst hs2
          have hgb : ∀ j, j < TB + 1 → w7.heap[j]? = w5.heap[j]? := fun j hj => by
            rw [hg.block j (by simp; omega) (fun e => by have := (HOb.out j e.symm).1; omega), Below.heap_alloc _ _ _ (by simp; omega), Below.heap_alloc _ _ _ (by omega)]
          have HB7 : Hid (Below w.heap.size w w7) := by
            have hs := HT5.out.bel.size
            refine HT5.out.bel.trans ((((Below.refl _ w5).alloc hs _).alloc (by simp; omega) _).grown hg (by simp; omega) (fun k hk => ?_))
            have := (HOb.out k hk).1
            omega
          have HX7 : Hid (Bx w7 TB #[.string Y1, .slice to C tc]) := by rw [← HC.out]; exact HT5.out.t.keep (hgb TB (by omega))
          have t7 : w7.cell? ⟨TB, 1, none⟩ = some (.slice to C tc) := HX7.out.cell 1
          have tf := HX7.out.froz
          have HN7 : Hid (TpW w (w7.setCell ⟨TB, 1, none⟩ (.slice so (C + 1) sc)) K A I Y (some ⟨b, o, none⟩) M cap TB Y1 (.slice so (C + 1) sc) (acc ++ [(⟨en, ek, ei, es⟩ : Sl)])) :=
            ⟨set_bel HB7.out (by omega), (HT5.out.n.keep (hgb _ (by omega))).off (by omega) _ _, (HT5.out.r.keep (hgb _ (by omega))).off (by omega) _ _, HX7.out.set 1 _, ownsRow_setCell_below HO7.out (by show TB < TB + 1; omega) _, HT5.out.lt⟩
          clear ho hg hgb t1 HT5 HK5 HO5 HOb HX7 HB7 HO7 HSl HRun HYk
          go_wp2
          go_roundw
          case rel => exact ⟨k + 1, acc ++ [(⟨en, ek, ei, es⟩ : Sl)], _, by omega, by go_num, by rw [hlC]; rw [HC.out] at h16; omega, HN7, HRun2⟩
          case measure => simp [intOf]; omega
        · have hd : (ee != 0) = true := by simpa using hee
          have HSl : Hid (slotR acc y = .error ee) := slotE_bad HE.out hee
          have HEr : Hid (parT x = .error (y.a, ee)) := by
            have := HRun.out
            rw [run_step HYk.out, HSl.out] at this
            rw [Hid, HP.out, ← this]
          have p1 : (w5.alloc (.cells #[.string en, .int .i64 ek, .int .i64 ei, .string es] 32)).cell? ⟨BK, 1, none⟩ = some (.int .i64 A2) := (HK5.out.alloc _).cell 1
          obtain ⟨W6, HW6⟩ : ∃ W6, Hid (w5.alloc (.cells #[.string en, .int .i64 ek, .int .i64 ei, .string es] 32) = W6) := ⟨_, rfl⟩
          have HT6 : Hid (TpW w W6 K A I Y (some ⟨b, o, none⟩) M cap TB Y1 (.slice to acc.length tc) acc) := by rw [← HW6.out]; exact HT5.out.next (alloc_below _ _)
          clear HSl HRun HYk hee HE HP
          go_wp2_with fail
          rw [HW6.out]
          refine (tfault_any A2 ee W6).mono ?_
          rintro e w7 ⟨rfl, hf7, hb7⟩
          have HT7 := HT6.out.next hb7
          have r0 : w7.cell? ⟨w.heap.size + 1, 0, none⟩ = some (.string ⟨#[]⟩) := HT7.r.cell 0
          have r1 : w7.cell? ⟨w.heap.size + 1, 1, none⟩ = some (.slice none 0 0) := HT7.r.cell 1
          have rf := HT7.r.froz
          have HB7 : Hid (Below w.heap.size w w7) := HT7.bel
          have HF7 : Hid (FaultAt w7 W6.heap.size (y.a : Int) ee) := by rw [HA2.out]; exact hf7
          have hl6 : w.heap.size + 1 < W6.heap.size := HT6.out.r.lt
          clear hb7 HT7 HT6 HT5 HK5 p1 hf7 HW6
          go_wp2
          exact bodyPost_ret (v := .tuple #[.agg #[.string ⟨#[]⟩, .slice none 0 0], .iface 92 (.pointer (some ⟨W6.heap.size, 0, none⟩))]) (by simp [results, Tryd.results10, go_sem, r0, r1]) rfl (tp_fault HEr.out HB7.out (by omega) (by omega) HF7.out)
      · have hki : ¬ (k : Int) < (N : Int) := by omega
        have HEr : Hid (parT x = .ok ⟨Y1, acc⟩) := by
          have := HRun.out
          rw [List.drop_of_length_le (by rw [HLn.out]; omega)] at this
          rw [Hid, HP.out, ← this]; rfl
        obtain ⟨to, tc, hv, hsl2, hcap2⟩ := own_sls rfl HT.out.own
        subst hv
        have r0 : wr.cell? ⟨w.heap.size + 1, 0, none⟩ = some (.string ⟨#[]⟩) := HT.out.r.cell 0
        have r1 : wr.cell? ⟨w.heap.size + 1, 1, none⟩ = some (.slice none 0 0) := HT.out.r.cell 1
        have rf := HT.out.r.froz
        obtain ⟨C, HC⟩ : ∃ C, Hid (acc.length = C) := ⟨_, rfl⟩
        have t0 : wr.cell? ⟨TB, 0, none⟩ = some (.string Y1) := HT.out.t.cell 0
        have t1 : wr.cell? ⟨TB, 1, none⟩ = some (.slice to C tc) := by rw [← HC.out]; exact HT.out.t.cell 1
        have HSe : Hid (IsSls ((wr.setCell ⟨w.heap.size + 1, 0, none⟩ (.string Y1)).setCell ⟨w.heap.size + 1, 1, none⟩ (.slice to C tc)) to acc) := by
          have hne : ∀ b o, to = some ⟨b, o, none⟩ → b ≠ w.heap.size + 1 := fun b o e h => by
            subst e
            have := (HT.out.own.lt b rfl).1
            omega
          exact (hsl2.set hne).set hne
        have HBe : Hid (Below w.heap.size w ((wr.setCell ⟨w.heap.size + 1, 0, none⟩ (.string Y1)).setCell ⟨w.heap.size + 1, 1, none⟩ (.slice to C tc))) := set_bel (set_bel HT.out.bel (by omega)) (by omega)
        clear hsl2 HT HRun HP
        go_wp2
        exact bodyPost_ret (v := .tuple #[.agg #[.string Y1, .slice to C tc], .nilIface]) (by simp [results, Tryd.results10, go_sem, r0, r1]) rfl ⟨HBe.out, .inl ⟨⟨Y1, acc⟩, to, tc, HEr.out, by unfold tmV; simp only; rw [HC.out], hcap2, HSe.out⟩⟩
end Go.Proofs.YtlniifheapoppaaDoor
