/- Rows that are made and written; what Fill has filled. -/
import Derived.Laws.MakeOwn
import Derived.Deep.OwnRows
import Derived.Test.YtlniifheapoppaaDoorG23
namespace Go.Proofs.YtlniifheapoppaaDoor
open Go.RowKit

def val0 : Val := ⟨0, 0, ⟨#[]⟩⟩
theorem valsC_cons3 (x : Val) (r : List Val) : valsC (x :: r) = .int .i64 x.k :: .int .i64 x.i :: .string x.s :: valsC r := by rw [valsC_cons]; rfl
theorem vals_setL : ∀ (cur : List Val) (p : Nat) (v : Val), p < cur.length → (((valsC cur).set (p * 3) (.int .i64 v.k)).set (p * 3 + 1) (.int .i64 v.i)).set (p * 3 + 2) (.string v.s) = valsC (cur.set p v)
  | [], p, v, h => by simp at h
  | x :: r, 0, v, _ => by rw [List.set_cons_zero, valsC_cons3, valsC_cons3]; rfl
  | x :: r, p + 1, v, h => by
    rw [List.set_cons_succ, valsC_cons3, valsC_cons3, ← vals_setL r p v (by simpa using h), show (p + 1) * 3 = p * 3 + 1 + 1 + 1 by omega]
    rfl
theorem vals_set {cur : List Val} {p : Nat} (v : Val) (h : p < cur.length) : (((valsC cur).toArray.setIfInBounds (p * 3) (.int .i64 v.k)).setIfInBounds (p * 3 + 1) (.int .i64 v.i)).setIfInBounds (p * 3 + 2) (.string v.s) = (valsC (cur.set p v)).toArray := by
  rw [List.setIfInBounds_toArray, List.setIfInBounds_toArray, List.setIfInBounds_toArray, vals_setL cur p v h]
theorem vals_get {cur : List Val} {p q : Nat} {v : Val} (h : cur[p]? = some v) (hq : q < 3) : (valsC cur).toArray[p * 3 + q]? = (vC v)[q]? := by
  rw [List.getElem?_toArray]; exact vals_at cur p q v h hq
theorem vals_made (N : Nat) : madeCells #[.int .i64 0, .int .i64 0, .string ⟨#[]⟩] (N * 3) = (valsC (List.replicate N val0)).toArray := by
  apply Array.ext
  · rw [size_madeCells, List.size_toArray, valsC_len, List.length_replicate]
  · intro i h1 h2
    rw [size_madeCells] at h1
    obtain ⟨q, r, hr, rfl⟩ : ∃ q r, r < 3 ∧ i = q * 3 + r := ⟨i / 3, i % 3, by omega, by omega⟩
    have hv : (List.replicate N val0)[q]? = some val0 := by rw [List.getElem?_replicate, if_pos (by omega)]
    have e2 := vals_get hv hr
    rw [Array.getElem?_eq_getElem h2] at e2
    have e1 : (madeCells #[Value.int .i64 0, .int .i64 0, .string ⟨#[]⟩] (N * 3))[q * 3 + r] = (vC val0)[r]'(by show r < 3; exact hr) := by
      simp only [madeCells, Array.getElem_map, Array.getElem_range]
      have : (q * 3 + r) % 3 = r := by omega
      show (#[Value.int .i64 0, .int .i64 0, .string ⟨#[]⟩])[(q * 3 + r) % 3]! = _
      rw [this]
      match r, hr with
      | 0, _ => rfl
      | 1, _ => rfl
      | 2, _ => rfl
    rw [e1]
    rw [List.getElem?_eq_getElem (by show r < 3; exact hr)] at e2
    exact (Option.some.inj e2).symm
/-- A row of values in a block. -/
theorem Bx.vals {w : World} {b : Nat} {cur : List Val} (h : Bx w b (valsC cur).toArray) {p : Nat} {v : Val} (hv : cur[p]? = some v) : w.cell? ⟨b, p * 3, none⟩ = some (.int .i64 v.k) ∧ w.cell? ⟨b, p * 3 + 1, none⟩ = some (.int .i64 v.i) ∧ w.cell? ⟨b, p * 3 + 2, none⟩ = some (.string v.s) :=
  ⟨by rw [h.cell]; exact vals_get (q := 0) hv (by decide), by rw [h.cell]; exact vals_get hv (by decide), by rw [h.cell]; exact vals_get hv (by decide)⟩
theorem Bx.isVals {w : World} {b : Nat} {cur : List Val} (h : Bx w b (valsC cur).toArray) : IsVals w (some ⟨b, 0, none⟩) cur := fun j v hj => by
  obtain ⟨h0, h1, h2⟩ := h.vals hj
  exact ⟨b, 0, rfl, by rw [Nat.zero_add]; exact h0, by rw [Nat.zero_add]; exact h1, by rw [Nat.zero_add]; exact h2⟩
def boolsC (fs : List Bool) : Array Value := (fs.map fun b => Value.bool b).toArray
theorem bools_set (fs : List Bool) (p : Nat) (b : Bool) : (boolsC fs).setIfInBounds p (.bool b) = boolsC (fs.set p b) := by
  unfold boolsC
  rw [List.setIfInBounds_toArray, List.map_set]
theorem bools_get {fs : List Bool} {p : Nat} {b : Bool} (h : fs[p]? = some b) : (boolsC fs)[p]? = some (.bool b) := by
  unfold boolsC
  rw [List.getElem?_toArray, List.getElem?_map, h]; rfl
theorem bools_made (N : Nat) : madeCells #[.bool false] N = boolsC (List.replicate N false) := by
  apply Array.ext
  · rw [size_madeCells]; unfold boolsC; simp
  · intro i h1 h2
    simp [madeCells, boolsC, Nat.mod_one]
/-- What is filled. -/
def fsOf (T : List Sl) (done : List ByteArray) : List Bool := (List.range T.length).map fun p => done.any fun n => decide (placeS T n = some p)
theorem fs_nil (T : List Sl) : fsOf T [] = List.replicate T.length false := by
  unfold fsOf
  apply List.ext_getElem
  · simp
  · intro i h1 h2; simp
theorem fs_get {T : List Sl} {done : List ByteArray} {n : ByteArray} {p : Nat} (h : placeS T n = some p) : (fsOf T done)[p]? = some (hasB done n) := by
  have hp := place_lt h
  unfold fsOf
  rw [List.getElem?_map, List.getElem?_range hp]
  show some (done.any fun m => decide (placeS T m = some p)) = some (hasB done n)
  congr 1
  unfold hasB
  congr 1
  funext m
  rw [decide_eq_decide]
  constructor
  · intro hm
    obtain ⟨s, h1, h2, _⟩ := place_some T m p hm
    obtain ⟨s', g1, g2, _⟩ := place_some T n p h
    rw [h1] at g1; cases g1
    rw [← h2, g2]
  · rintro rfl; exact h
theorem fs_set {T : List Sl} {done : List ByteArray} {n : ByteArray} {p : Nat} (h : placeS T n = some p) : (fsOf T done).set p true = fsOf T (done ++ [n]) := by
  apply List.ext_getElem
  · unfold fsOf; simp
  · intro i h1 h2
    unfold fsOf at h1 h2 ⊢
    simp only [List.length_set, List.length_map, List.length_range] at h1
    rw [List.getElem_set]
    simp only [List.getElem_map, List.getElem_range, List.any_append, List.any_cons, List.any_nil, Bool.or_false]
    by_cases e : p = i
    · subst e; rw [if_pos rfl, h]; simp
    · rw [if_neg e, h]; simp [e]
/-- One step of filling. -/
theorem fill_step {T : List Sl} {ns : List ByteArray} {vs cur : List Val} {k : Nat} {n : ByteArray} {v : Val} (hn : ns[k]? = some n) (hv : vs[k]? = some v) :
    fillL T (ns.take k) cur ((ns.zip vs).drop k) = match placeS T n with
      | none => .error 5
      | some p => if hasB (ns.take k) n = true then .error 6 else fillL T (ns.take (k + 1)) (cur.set p v) ((ns.zip vs).drop (k + 1)) := by
  obtain ⟨h1, e1⟩ := List.getElem?_eq_some_iff.1 hn
  obtain ⟨h2, e2⟩ := List.getElem?_eq_some_iff.1 hv
  have hz : k < (ns.zip vs).length := by rw [List.length_zip]; omega
  rw [List.drop_eq_getElem_cons hz, List.getElem_zip, e1, e2, List.take_succ_eq_append_getElem h1, e1]
  rfl
theorem defs_step {T : List Sl} {k : Nat} {s : Sl} (h : T[k]? = some s) : ((defsS (T.take k)) ++ List.replicate (T.length - k) val0).set k ⟨s.k, s.i, s.s⟩ = defsS (T.take (k + 1)) ++ List.replicate (T.length - (k + 1)) val0 := by
  obtain ⟨hk, e⟩ := List.getElem?_eq_some_iff.1 h
  have hl : (defsS (T.take k)).length = k := by unfold defsS; rw [List.length_map, List.length_take]; omega
  rw [List.set_append_right _ _ (by omega), hl, Nat.sub_self, show T.length - k = (T.length - (k + 1)) + 1 by omega, List.replicate_succ, List.set_cons_zero, List.take_succ_eq_append_getElem hk, e]
  unfold defsS
  rw [List.map_append, List.append_assoc]; rfl
end Go.Proofs.YtlniifheapoppaaDoor
/- Package tmpl's Fill. -/
namespace Go.Proofs.YtlniifheapoppaaDoor
open Go.RowKit

structure FiR (T : List Sl) (ns : List ByteArray) (vs : List Val) (w w' : World) (e : Ending) : Prop where
  bel : Below w.heap.size w w'
  res : (∃ out ao cap, fillR T ns vs = .ok out ∧ e = .returned (.tuple #[.slice ao out.length cap, .int .i64 0]) ∧ out.length ≤ cap ∧ IsVals w' ao out) ∨
    (∃ f, fillR T ns vs = .error f ∧ e = .returned (.tuple #[.slice none 0 0, .int .i64 f]))
theorem take_repl {T : List Sl} : defsS (T.take T.length) ++ List.replicate (T.length - T.length) val0 = defsS T := by
  rw [List.take_length, Nat.sub_self, List.replicate_zero, List.append_nil]
theorem cells_zero : (Value.agg #[.int .i64 0, .int .i64 0, .string ⟨#[]⟩]).cells = #[.int .i64 0, .int .i64 0, .string ⟨#[]⟩] := by rfl
theorem infoBool : (Tryd.prog.info? 4).map (fun i => (i.zero, i.size, i.bytes)) = some (some (.bool false), 1, 1) := by kernel_rfl

def wr5 (w5 : World) (FB p : Nat) : World := w5.setCell ⟨FB, p, none⟩ (.bool true)

set_option maxHeartbeats 16000000 in
set_option maxRecDepth 8000 in
theorem fill_any (t : Tp) (ao : Option Addr) (cap : Nat) (no vo : Option Addr) (N1 N2 nc vc : Nat) (ns : List ByteArray) (vs : List Val) (w : World) (hN : t.l.length ≤ 1000) (hn1 : ns.length = N1) (hn2 : vs.length = N2) (hb1 : N1 ≤ 1000) (h : IsSls w ao t.l) (hn : StrsA w no ns) (hv : IsVals w vo vs) :
    Calls Tryd.prog 7 #[tmV t ao cap, .slice no N1 nc, .slice vo N2 vc] w fun e w' => FiR t.l ns vs w w' e := by
  obtain ⟨tn, l⟩ := t
  unfold tmV
  simp only at hN h ⊢
  obtain ⟨N, HN⟩ : ∃ N, Hid (l.length = N) := ⟨_, rfl⟩
  have HI : Hid (IsSls w ao l) := h
  have HNs : Hid (StrsA w no ns) := hn
  have HVs : Hid (IsVals w vo vs) := hv
  have HL1 : Hid (ns.length = N1) := hn1
  have HL2 : Hid (vs.length = N2) := hn2
  obtain ⟨i0, hi, hz0, hz1, hz2⟩ := infoVal'
  rw [HN.out]
  rw [HN.out] at hN
  have hmk : ∀ w : World, (Instr.makeSlice 22 (.int .i64 (N : Int)) (.int .i64 (N : Int))).run Tryd.prog w = .ok (.slice (some ⟨w.heap.size, 0, none⟩) N N) (w.alloc (.cells (valsC (List.replicate N val0)).toArray 29)) := fun w => by
    have := run_make (P := Tryd.prog) w 22 29 i0 (.agg #[.int .i64 (0), .int .i64 (0), .string (⟨#[]⟩)]) Tryd.underlying22 hi hz0 .i64 .i64 (N : Int) (N : Int) (by omega) (Int.le_refl _) (by rw [hz2]; omega) (by omega)
    rw [this, hz1, cells_zero, Int.toNat_natCast, vals_made]
  have hmb : ∀ w : World, (Instr.makeSlice 58 (.int .i64 (N : Int)) (.int .i64 (N : Int))).run Tryd.prog w = .ok (.slice (some ⟨w.heap.size, 0, none⟩) N N) (w.alloc (.cells (boolsC (List.replicate N false)) 4)) := fun w => by
    rw [← bools_made]
    exact run_make_row' (P := Tryd.prog) 58 4 (.bool false) 1 Tryd.underlying58 infoBool rfl .i64 .i64 N (by omega) (by omega) w
  clear h hn hv hn1 hn2 hi hz0 hz1 hz2
  by_cases hne : N1 = N2
  case neg =>
    have hd : ((N1 : Int) != (N2 : Int)) = true := by simp; omega
    have HF : Hid (fillR l ns vs = .error 1) := by rw [Hid]; unfold fillR; rw [if_neg (by rw [HL1.out, HL2.out]; exact hne)]
    clear hmk hmb HI HNs HVs hne
    go_enter Tryd.func7, Tryd.ntmps7
    go_wp2
    go_ret2
    exact ⟨alloc_below _ _, .inr ⟨1, HF.out, rfl⟩⟩
  subst hne
  have hd : ((N1 : Int) != (N1 : Int)) = false := by simp
  have HF : Hid (fillR l ns vs = fillL l (ns.take 0) (defsS l) ((ns.zip vs).drop 0)) := by rw [Hid]; unfold fillR; rw [if_pos (by rw [HL1.out, HL2.out])]; rfl
  obtain ⟨R, HR⟩ : ∃ R, Hid (fillL l (ns.take 0) (defsS l) ((ns.zip vs).drop 0) = R) := ⟨_, rfl⟩
  obtain ⟨W1, HW1⟩ : ∃ W1, Hid (w.alloc (.cells #[.string tn, .slice ao N cap] 26) = W1) := ⟨_, rfl⟩
  have hW1s : W1.heap.size = w.heap.size + 1 := by rw [← HW1.out]; simp
  have HX1 : Hid (Bx W1 w.heap.size #[.string tn, .slice ao N cap]) := Bx.made' HW1.out rfl
  have HB1 : Hid (Below w.heap.size w W1) := by rw [← HW1.out]; exact alloc_below _ _
  obtain ⟨W2, HW2⟩ : ∃ W2, Hid (W1.alloc (.cells (valsC (List.replicate N val0)).toArray 29) = W2) := ⟨_, rfl⟩
  have HV2 : Hid (Bx W2 (w.heap.size + 1) (valsC (defsS (l.take 0) ++ List.replicate (N - 0) val0)).toArray) := Bx.made' HW2.out hW1s
  have HX2 : Hid (Bx W2 w.heap.size #[.string tn, .slice ao N cap]) := by rw [← HW2.out]; exact HX1.out.alloc _
  have HB2 : Hid (Below w.heap.size w W2) := by rw [← HW2.out]; exact next_trans HB1.out (alloc_below _ _)
  have x1 : W1.cell? ⟨w.heap.size, 1, none⟩ = some (.slice ao N cap) := HX1.out.cell 1
  go_enter Tryd.func7, Tryd.ntmps7
  go_wp2_with fail
  rw [HW1.out, HW2.out]
  clear HW1 HW2 hW1s HX1 HB1 x1 hmk
  go_loopw [28] (fun q wr => ∃ k : Nat, k ≤ N ∧ q = .int .i64 k ∧ Hid (Below w.heap.size w wr) ∧ Hid (Bx wr w.heap.size #[.string tn, .slice ao N cap]) ∧ Hid (Bx wr (w.heap.size + 1) (valsC (defsS (l.take k) ++ List.replicate (N - k) val0)).toArray)) (fun q _ => N - (intOf q).toNat)
  case atStart => exact ⟨0, Nat.zero_le _, rfl, HB2, HX2, HV2⟩
  case round =>
    obtain ⟨k, hk, rfl, HB, HX, HV⟩ := hrel
    clear HB2 HX2 HV2
    have hlv : w.heap.size + 1 < wr.heap.size := HV.out.lt
    by_cases hlt : k < N
    · have hki : (k : Int) < (N : Int) := by omega
      have hk0 : (0 : Int) ≤ (k : Int) := by omega
      obtain ⟨s, hs⟩ : ∃ s, l[k]? = some s := ⟨_, List.getElem?_eq_getElem (by rw [HN.out]; exact hlt)⟩
      obtain ⟨b, o, rfl, c0, c1, c2, c3⟩ := (HI.out.next HB.out) k s hs
      have hst := defs_step hs
      rw [HN.out] at hst
      have hlen : (defsS (l.take k) ++ List.replicate (N - k) val0).length = N := by unfold defsS; rw [List.length_append, List.length_map, List.length_take, List.length_replicate, HN.out]; omega
      have hck : (defsS (l.take k) ++ List.replicate (N - k) val0)[k]? = some val0 := by
        have : (defsS (l.take k)).length = k := by unfold defsS; rw [List.length_map, List.length_take, HN.out]; omega
        rw [List.getElem?_append_right (by omega), this, Nat.sub_self, List.getElem?_replicate, if_pos (by omega)]
      obtain ⟨v0, v1, v2⟩ := HV.out.vals hck
      have vf := HV.out.froz
      obtain ⟨sn, sk, si, ss⟩ := s
      simp only at c0 c1 c2 c3 hst
      have HVn : Hid (Bx ((((wr.setCell ⟨w.heap.size + 1, k * 3, none⟩ (.int .i64 sk)).setCell ⟨w.heap.size + 1, k * 3 + 1, none⟩ (.int .i64 si)).setCell ⟨w.heap.size + 1, k * 3 + 2, none⟩ (.string ss)).alloc (.cells #[.string sn, .int .i64 sk, .int .i64 si, .string ss] 32)) (w.heap.size + 1) (valsC (defsS (l.take (k + 1)) ++ List.replicate (N - (k + 1)) val0)).toArray) := by
        rw [← hst, ← vals_set (⟨sk, si, ss⟩ : Val) (by rw [hlen]; exact hlt)]
        exact (((HV.out.set _ _).set _ _).set _ _).alloc _
      have HXn : Hid (Bx ((((wr.setCell ⟨w.heap.size + 1, k * 3, none⟩ (.int .i64 sk)).setCell ⟨w.heap.size + 1, k * 3 + 1, none⟩ (.int .i64 si)).setCell ⟨w.heap.size + 1, k * 3 + 2, none⟩ (.string ss)).alloc (.cells #[.string sn, .int .i64 sk, .int .i64 si, .string ss] 32)) w.heap.size #[.string tn, .slice (some ⟨b, o, none⟩) N cap]) := (((HX.out.off (by omega) _ _).off (by omega) _ _).off (by omega) _ _).alloc _
      have HBn : Hid (Below w.heap.size w ((((wr.setCell ⟨w.heap.size + 1, k * 3, none⟩ (.int .i64 sk)).setCell ⟨w.heap.size + 1, k * 3 + 1, none⟩ (.int .i64 si)).setCell ⟨w.heap.size + 1, k * 3 + 2, none⟩ (.string ss)).alloc (.cells #[.string sn, .int .i64 sk, .int .i64 si, .string ss] 32))) := (set_bel (set_bel (set_bel HB.out (by omega)) (by omega)) (by omega)).alloc (by rw [set_size, set_size, set_size]; omega) _
      clear hs hst hlen hck HV HX HB
      go_wp2
      go_roundw
      case rel => exact ⟨k + 1, by omega, by go_num, HBn, HXn, HVn⟩
      case measure => simp [intOf]; omega
    · have hki : ¬ (k : Int) < (N : Int) := by omega
      obtain rfl : k = N := by omega
      have HV2 : Hid (Bx wr (w.heap.size + 1) (valsC (defsS l)).toArray) := by
        have := HV.out
        rw [Nat.sub_self, List.replicate_zero, List.append_nil, List.take_of_length_le (by rw [HN.out]; exact Nat.le_refl _)] at this
        exact this
      have x1 : wr.cell? ⟨w.heap.size, 1, none⟩ = some (.slice ao k cap) := HX.out.cell 1
      obtain ⟨FB, HFB⟩ : ∃ FB, Hid (wr.heap.size = FB) := ⟨_, rfl⟩
      obtain ⟨W5, HW5⟩ : ∃ W5, Hid (wr.alloc (.cells (boolsC (List.replicate k false)) 4) = W5) := ⟨_, rfl⟩
      have HB5 : Hid (Below w.heap.size w W5) := by rw [← HW5.out]; exact next_trans HB.out (alloc_below _ _)
      have HX5 : Hid (Bx W5 w.heap.size #[.string tn, .slice ao k cap]) := by rw [← HW5.out]; exact HX.out.alloc _
      have HV5 : Hid (Bx W5 (w.heap.size + 1) (valsC (defsS l)).toArray) := by rw [← HW5.out]; exact HV2.out.alloc _
      have HF5 : Hid (Bx W5 FB (boolsC (fsOf l (ns.take 0)))) := by rw [List.take_zero, fs_nil, HN.out]; exact Bx.made' HW5.out HFB.out
      have hfb : w.heap.size + 1 < FB := by rw [← HFB.out]; exact hlv
      have HD5 : Hid ((defsS l).length = k) := by rw [Hid]; unfold defsS; rw [List.length_map, HN.out]
      go_wp2
      rw [HW5.out, HFB.out]
      clear HW5 HFB x1 HV HV2 HX HB hmb hki
      go_loopw [45] (fun q wr => ∃ (j : Nat) (cur : List Val), j ≤ N1 ∧ q = .int .i64 j ∧ Hid (Below w.heap.size w wr) ∧ Hid (Bx wr w.heap.size #[.string tn, .slice ao k cap]) ∧ Hid (Bx wr (w.heap.size + 1) (valsC cur).toArray) ∧ Hid (cur.length = k) ∧ Hid (Bx wr FB (boolsC (fsOf l (ns.take j)))) ∧ Hid (fillL l (ns.take j) cur ((ns.zip vs).drop j) = R)) (fun q _ => N1 - (intOf q).toNat)
      case atStart => exact ⟨0, _, Nat.zero_le _, rfl, HB5, HX5, HV5, HD5, HF5, HR⟩
      case round =>
        obtain ⟨j, cur, hj, rfl, HB, HX, HV, HD, HFs, HRj⟩ := hrel
        clear HB5 HX5 HV5 HD5 HF5
        have hlv : w.heap.size + 1 < wr.heap.size := HV.out.lt
        by_cases hlt : j < N1
        · have hji : (j : Int) < (N1 : Int) := by omega
          have hj0 : (0 : Int) ≤ (j : Int) := by omega
          obtain ⟨n, hn⟩ : ∃ n, ns[j]? = some n := ⟨_, List.getElem?_eq_getElem (by rw [HL1.out]; exact hlt)⟩
          obtain ⟨v, hv⟩ : ∃ v, vs[j]? = some v := ⟨_, List.getElem?_eq_getElem (by rw [HL2.out]; exact hlt)⟩
          have HSt : Hid (R = match placeS l n with
            | none => .error 5
            | some p => if hasB (ns.take j) n = true then .error 6 else fillL l (ns.take (j + 1)) (cur.set p v) ((ns.zip vs).drop (j + 1))) := by rw [Hid, ← HRj.out]; exact fill_step hn hv
          obtain ⟨nb, nof, rfl, c0⟩ := (HNs.out.next HB.out) j n hn
          have HVj : Hid (vs[j]? = some v) := hv
          have HNj : Hid (ns[j]? = some n) := hn
          obtain ⟨P, S, HS⟩ : ∃ P S, Hid (placeI l n = P ∧ (placeS l n).isSome = S) := ⟨_, _, rfl, rfl⟩
          have HPl : Hid (∀ w', Below wr.heap.size wr w' → Calls Tryd.prog 12 #[.agg #[.string tn, .slice ao k cap], .string n] w' fun e w2 => e = .returned (.tuple #[.int .i64 P, .bool S]) ∧ Below w'.heap.size w' w2) := by
            intro w' hw; have := tslot_any ⟨tn, l⟩ ao cap n w' (by show l.length ≤ 1000; rw [HN.out]; exact hN) (HI.out.next (next_trans HB.out hw)); unfold tmV at this; simp only at this; rw [HS.out.1, HS.out.2, HN.out] at this; exact this
          have x0 : wr.cell? ⟨w.heap.size, 0, none⟩ = some (.string tn) := HX.out.cell 0
          have x1 : wr.cell? ⟨w.heap.size, 1, none⟩ = some (.slice ao k cap) := HX.out.cell 1
          clear hn hv
          go_wp2_with fail
          refine (HPl.out wr (Below.refl _ _)).mono ?_
          rintro e w5 ⟨rfl, hb5⟩
          have HB5 : Hid (Below w.heap.size w w5) := next_trans HB.out hb5
          have HX5 : Hid (Bx w5 w.heap.size #[.string tn, .slice ao k cap]) := HX.out.next hb5
          have HV5 : Hid (Bx w5 (w.heap.size + 1) (valsC cur).toArray) := HV.out.next hb5
          have HF5 : Hid (Bx w5 FB (boolsC (fsOf l (ns.take j)))) := HFs.out.next hb5
          clear hb5 HPl c0 x0 x1 HB HX HV HFs
          cases hpl : placeS l n with
          | none =>
            obtain rfl : S = false := by rw [← HS.out.2, hpl]; rfl
            have HE : Hid (fillR l ns vs = .error 5) := by rw [Hid, HF.out, HR.out, HSt.out, hpl]
            clear HS HSt hpl HX5 HV5 HF5
            go_wp2
            go_ret2
            exact ⟨HB5.out, .inr ⟨5, HE.out, rfl⟩⟩
          | some p =>
            obtain rfl : S = true := by rw [← HS.out.2, hpl]; rfl
            obtain rfl : P = (p : Int) := by rw [← HS.out.1]; exact placeI_at hpl
            have hp := place_lt hpl
            rw [HN.out] at hp
            have hpi : (p : Int) < (k : Int) := by omega
            have hp0 : (0 : Int) ≤ (p : Int) := by omega
            have hfl : (boolsC (fsOf l (ns.take j)))[p]? = some (.bool (hasB (ns.take j) n)) := bools_get (fs_get hpl)
            have hfs := fs_set (done := ns.take j) hpl
            cases hh : hasB (ns.take j) n with
            | true =>
              have HE : Hid (fillR l ns vs = .error 6) := by rw [Hid, HF.out, HR.out, HSt.out, hpl]; simp only; rw [if_pos hh]
              have f0 : w5.cell? ⟨FB, p, none⟩ = some (.bool true) := by rw [HF5.out.cell, hfl, hh]
              clear HS HSt hpl HX5 HV5 HF5 hfl hfs hh
              go_wp2
              go_ret2
              exact ⟨HB5.out, .inr ⟨6, HE.out, rfl⟩⟩
            | false =>
              have f0 : w5.cell? ⟨FB, p, none⟩ = some (.bool false) := by rw [HF5.out.cell, hfl, hh]
              have ff := HF5.out.froz
              have HR2 : Hid (fillL l (ns.take (j + 1)) (cur.set p v) ((ns.zip vs).drop (j + 1)) = R) := by rw [Hid, HSt.out, hpl]; simp only; rw [if_neg (by rw [hh]; decide)]
              obtain ⟨b2, o2, rfl, d0, d1, d2⟩ := (HVs.out.next HB5.out) j v HVj.out
              have hcp : p < cur.length := by rw [HD.out]; exact hp
              obtain ⟨u0, hu⟩ : ∃ u0, cur[p]? = some u0 := ⟨_, List.getElem?_eq_getElem hcp⟩
              obtain ⟨v0, v1, v2⟩ := HV5.out.vals hu
              have vf := HV5.out.froz
              have hne1 : ¬ FB = w.heap.size + 1 := by omega
              have hne2 : ¬ w.heap.size + 1 = FB := by omega
              have hob2 : b2 < w.heap.size := by
                obtain ⟨b', o', e', d0', _⟩ := HVs.out j v HVj.out
                have e1 := Option.some.inj e'
                injection e1 with e2 e3
                subst e2
                exact World.block_lt_of_cell? w ⟨b2, _, none⟩ d0'
              have hne3 : ¬ FB = b2 := by omega
              obtain ⟨vk, vi, vs'⟩ := v
              simp only at d0 d1 d2
              have htk : ns.take j ++ [n] = ns.take (j + 1) := by
                obtain ⟨h1, e1⟩ := List.getElem?_eq_some_iff.1 HNj.out
                rw [List.take_succ_eq_append_getElem h1, e1]
              have HFn : Hid (Bx ((((wr5 w5 FB p).setCell ⟨w.heap.size + 1, p * 3, none⟩ (.int .i64 vk)).setCell ⟨w.heap.size + 1, p * 3 + 1, none⟩ (.int .i64 vi)).setCell ⟨w.heap.size + 1, p * 3 + 2, none⟩ (.string vs')) FB (boolsC (fsOf l (ns.take (j + 1))))) := by
                rw [← htk, ← hfs, ← bools_set]
                exact (((HF5.out.set p (.bool true)).off hne1 _ _).off hne1 _ _).off hne1 _ _
              have HVn : Hid (Bx ((((wr5 w5 FB p).setCell ⟨w.heap.size + 1, p * 3, none⟩ (.int .i64 vk)).setCell ⟨w.heap.size + 1, p * 3 + 1, none⟩ (.int .i64 vi)).setCell ⟨w.heap.size + 1, p * 3 + 2, none⟩ (.string vs')) (w.heap.size + 1) (valsC (cur.set p ⟨vk, vi, vs'⟩)).toArray) := by
                rw [← vals_set (⟨vk, vi, vs'⟩ : Val) hcp]
                exact (((HV5.out.off hne2 _ _).set _ _).set _ _).set _ _
              have HXn : Hid (Bx ((((wr5 w5 FB p).setCell ⟨w.heap.size + 1, p * 3, none⟩ (.int .i64 vk)).setCell ⟨w.heap.size + 1, p * 3 + 1, none⟩ (.int .i64 vi)).setCell ⟨w.heap.size + 1, p * 3 + 2, none⟩ (.string vs')) w.heap.size #[.string tn, .slice ao k cap]) := (((HX5.out.off (by omega) _ _).off (by omega) _ _).off (by omega) _ _).off (by omega) _ _
              have HBn : Hid (Below w.heap.size w ((((wr5 w5 FB p).setCell ⟨w.heap.size + 1, p * 3, none⟩ (.int .i64 vk)).setCell ⟨w.heap.size + 1, p * 3 + 1, none⟩ (.int .i64 vi)).setCell ⟨w.heap.size + 1, p * 3 + 2, none⟩ (.string vs'))) := set_bel (set_bel (set_bel (set_bel HB5.out (by omega)) (by omega)) (by omega)) (by omega)
              have HDn : Hid ((cur.set p (⟨vk, vi, vs'⟩ : Val)).length = k) := by rw [Hid, List.length_set]; exact HD.out
              clear HS HSt hpl HX5 HV5 HF5 hfl hfs hh htk hu HVj HNj HB5 HRj
              unfold wr5 at HFn HVn HXn HBn
              go_wp2
              go_roundw
              case rel => exact ⟨j + 1, cur.set p ⟨vk, vi, vs'⟩, by omega, by go_num, HBn, HXn, HVn, HDn, HFn, HR2⟩
              case measure => simp [intOf]; omega
        · have hji : ¬ (j : Int) < (N1 : Int) := by omega
          obtain rfl : j = N1 := by omega
          have HE : Hid (fillR l ns vs = .ok cur) := by
            have := HRj.out
            rw [List.drop_of_length_le (by rw [List.length_zip, HL1.out, HL2.out]; omega)] at this
            rw [Hid, HF.out, HR.out, ← this]; rfl
          have HIV : Hid (IsVals wr (some ⟨w.heap.size + 1, 0, none⟩) cur) := HV.out.isVals
          clear HV HX HFs HRj
          go_wp2
          go_ret2
          exact ⟨HB.out, .inl ⟨cur, some ⟨w.heap.size + 1, 0, none⟩, k, HE.out, by rw [HD.out]; rfl, by rw [HD.out]; exact Nat.le_refl _, HIV.out⟩⟩
end Go.Proofs.YtlniifheapoppaaDoor
