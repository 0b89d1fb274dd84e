/- Rows that are made and written; what Fill has filled. -/
import Derived.Laws.MakeOwn
import Derived.Deep.OwnRows
import Derived.Test.YtnhbjhdkpbhioaaGreatDoorG23
namespace Go.Proofs.YtnhbjhdkpbhioaaGreatDoor
open Go.RowKit

def val0 : Val := ⟨0, 0, ⟨#[]⟩⟩
theorem valsC_cons3 (x : Val) (r : List Val) : valsC (x :: r) = .int .i64 x.k :: .int .i64 x.i :: .string x.s :: valsC r := by rw [valsC_cons]; rfl
theorem vals_setL : ∀ (cur : List Val) (p : Nat) (v : Val), p < cur.length → (((valsC cur).set (p * 3) (.int .i64 v.k)).set (p * 3 + 1) (.int .i64 v.i)).set (p * 3 + 2) (.string v.s) = valsC (cur.set p v)
  | [], p, v, h => by simp at h
  | x :: r, 0, v, _ => by rw [List.set_cons_zero, valsC_cons3, valsC_cons3]; rfl
  | x :: r, p + 1, v, h => by
    rw [List.set_cons_succ, valsC_cons3, valsC_cons3, ← vals_setL r p v (by simpa using h), show (p + 1) * 3 = p * 3 + 1 + 1 + 1 by omega]
    rfl
theorem vals_set {cur : List Val} {p : Nat} (v : Val) (h : p < cur.length) : (((valsC cur).toArray.setIfInBounds (p * 3) (.int .i64 v.k)).setIfInBounds (p * 3 + 1) (.int .i64 v.i)).setIfInBounds (p * 3 + 2) (.string v.s) = (valsC (cur.set p v)).toArray := by
  rw [List.setIfInBounds_toArray, List.setIfInBounds_toArray, List.setIfInBounds_toArray, vals_setL cur p v h]
theorem vals_get {cur : List Val} {p q : Nat} {v : Val} (h : cur[p]? = some v) (hq : q < 3) : (valsC cur).toArray[p * 3 + q]? = (vC v)[q]? := by
  rw [List.getElem?_toArray]; exact vals_at cur p q v h hq
theorem vals_made (N : Nat) : madeCells #[.int .i64 0, .int .i64 0, .string ⟨#[]⟩] (N * 3) = (valsC (List.replicate N val0)).toArray := by
  apply Array.ext
  · rw [size_madeCells, List.size_toArray, valsC_len, List.length_replicate]
  · intro i h1 h2
    rw [size_madeCells] at h1
    obtain ⟨q, r, hr, rfl⟩ : ∃ q r, r < 3 ∧ i = q * 3 + r := ⟨i / 3, i % 3, by omega, by omega⟩
    have hv : (List.replicate N val0)[q]? = some val0 := by rw [List.getElem?_replicate, if_pos (by omega)]
    have e2 := vals_get hv hr
    rw [Array.getElem?_eq_getElem h2] at e2
    have e1 : (madeCells #[Value.int .i64 0, .int .i64 0, .string ⟨#[]⟩] (N * 3))[q * 3 + r] = (vC val0)[r]'(by show r < 3; exact hr) := by
      simp only [madeCells, Array.getElem_map, Array.getElem_range]
      have : (q * 3 + r) % 3 = r := by omega
      show (#[Value.int .i64 0, .int .i64 0, .string ⟨#[]⟩])[(q * 3 + r) % 3]! = _
      rw [this]
      match r, hr with
      | 0, _ => rfl
      | 1, _ => rfl
      | 2, _ => rfl
    rw [e1]
    rw [List.getElem?_eq_getElem (by show r < 3; exact hr)] at e2
    exact (Option.some.inj e2).symm
/-- A row of values in a block. -/
theorem Bx.vals {w : World} {b : Nat} {cur : List Val} (h : Bx w b (valsC cur).toArray) {p : Nat} {v : Val} (hv : cur[p]? = some v) : w.cell? ⟨b, p * 3, none⟩ = some (.int .i64 v.k) ∧ w.cell? ⟨b, p * 3 + 1, none⟩ = some (.int .i64 v.i) ∧ w.cell? ⟨b, p * 3 + 2, none⟩ = some (.string v.s) :=
  ⟨by rw [h.cell]; exact vals_get (q := 0) hv (by decide), by rw [h.cell]; exact vals_get hv (by decide), by rw [h.cell]; exact vals_get hv (by decide)⟩
theorem Bx.isVals {w : World} {b : Nat} {cur : List Val} (h : Bx w b (valsC cur).toArray) : IsVals w (some ⟨b, 0, none⟩) cur := fun j v hj => by
  obtain ⟨h0, h1, h2⟩ := h.vals hj
  exact ⟨b, 0, rfl, by rw [Nat.zero_add]; exact h0, by rw [Nat.zero_add]; exact h1, by rw [Nat.zero_add]; exact h2⟩
def boolsC (fs : List Bool) : Array Value := (fs.map fun b => Value.bool b).toArray
theorem bools_set (fs : List Bool) (p : Nat) (b : Bool) : (boolsC fs).setIfInBounds p (.bool b) = boolsC (fs.set p b) := by
  unfold boolsC
  rw [List.setIfInBounds_toArray, List.map_set]
theorem bools_get {fs : List Bool} {p : Nat} {b : Bool} (h : fs[p]? = some b) : (boolsC fs)[p]? = some (.bool b) := by
  unfold boolsC
  rw [List.getElem?_toArray, List.getElem?_map, h]; rfl
theorem bools_made (N : Nat) : madeCells #[.bool false] N = boolsC (List.replicate N false) := by
  apply Array.ext
  · rw [size_madeCells]; unfold boolsC; simp
  · intro i h1 h2
    simp [madeCells, boolsC, Nat.mod_one]
/-- What is filled. -/
def fsOf (T : List Sl) (done : List ByteArray) : List Bool := (List.range T.length).map fun p => done.any fun n => decide (placeS T n = some p)
theorem fs_nil (T : List Sl) : fsOf T [] = List.replicate T.length false := by
  unfold fsOf
  apply List.ext_getElem
  · simp
  · intro i h1 h2; simp
theorem fs_get {T : List Sl} {done : List ByteArray} {n : ByteArray} {p : Nat} (h : placeS T n = some p) : (fsOf T done)[p]? = some (hasB done n) := by
  have hp := place_lt h
  unfold fsOf
  rw [List.getElem?_map, List.getElem?_range hp]
  show some (done.any fun m => decide (placeS T m = some p)) = some (hasB done n)
  congr 1
  unfold hasB
  congr 1
  funext m
  rw [decide_eq_decide]
  constructor
  · intro hm
    obtain ⟨s, h1, h2, _⟩ := place_some T m p hm
    obtain ⟨s', g1, g2, _⟩ := place_some T n p h
    rw [h1] at g1; cases g1
    rw [← h2, g2]
  · rintro rfl; exact h
theorem fs_set {T : List Sl} {done : List ByteArray} {n : ByteArray} {p : Nat} (h : placeS T n = some p) : (fsOf T done).set p true = fsOf T (done ++ [n]) := by
  apply List.ext_getElem
  · unfold fsOf; simp
  · intro i h1 h2
    unfold fsOf at h1 h2 ⊢
    simp only [List.length_set, List.length_map, List.length_range] at h1
    rw [List.getElem_set]
    simp only [List.getElem_map, List.getElem_range, List.any_append, List.any_cons, List.any_nil, Bool.or_false]
    by_cases e : p = i
    · subst e; rw [if_pos rfl, h]; simp
    · rw [if_neg e, h]; simp [e]
/-- One step of filling. -/
theorem fill_step {T : List Sl} {ns : List ByteArray} {vs cur : List Val} {k : Nat} {n : ByteArray} {v : Val} (hn : ns[k]? = some n) (hv : vs[k]? = some v) :
    fillL T (ns.take k) cur ((ns.zip vs).drop k) = match placeS T n with
      | none => .error 5
      | some p => if hasB (ns.take k) n = true then .error 6 else fillL T (ns.take (k + 1)) (cur.set p v) ((ns.zip vs).drop (k + 1)) := by
  obtain ⟨h1, e1⟩ := List.getElem?_eq_some_iff.1 hn
  obtain ⟨h2, e2⟩ := List.getElem?_eq_some_iff.1 hv
  have hz : k < (ns.zip vs).length := by rw [List.length_zip]; omega
  rw [List.drop_eq_getElem_cons hz, List.getElem_zip, e1, e2, List.take_succ_eq_append_getElem h1, e1]
  rfl
theorem defs_step {T : List Sl} {k : Nat} {s : Sl} (h : T[k]? = some s) : ((defsS (T.take k)) ++ List.replicate (T.length - k) val0).set k ⟨s.k, s.i, s.s⟩ = defsS (T.take (k + 1)) ++ List.replicate (T.length - (k + 1)) val0 := by
  obtain ⟨hk, e⟩ := List.getElem?_eq_some_iff.1 h
  have hl : (defsS (T.take k)).length = k := by unfold defsS; rw [List.length_map, List.length_take]; omega
  rw [List.set_append_right _ _ (by omega), hl, Nat.sub_self, show T.length - k = (T.length - (k + 1)) + 1 by omega, List.replicate_succ, List.set_cons_zero, List.take_succ_eq_append_getElem hk, e]
  unfold defsS
  rw [List.map_append, List.append_assoc]; rfl
end Go.Proofs.YtnhbjhdkpbhioaaGreatDoor
/- Package tmpl's Fill. -/
namespace Go.Proofs.YtnhbjhdkpbhioaaGreatDoor
open Go.RowKit

structure FiR (T : List Sl) (ns : List ByteArray) (vs : List Val) (w w' : World) (e : Ending) : Prop where
  bel : Below w.heap.size w w'
  res : (∃ out ao cap, fillR T ns vs = .ok out ∧ e = .returned (.tuple #[.slice ao out.length cap, .int .i64 0]) ∧ out.length ≤ cap ∧ IsVals w' ao out) ∨
    (∃ f, fillR T ns vs = .error f ∧ e = .returned (.tuple #[.slice none 0 0, .int .i64 f]))
theorem take_repl {T : List Sl} : defsS (T.take T.length) ++ List.replicate (T.length - T.length) val0 = defsS T := by
  rw [List.take_length, Nat.sub_self, List.replicate_zero, List.append_nil]
theorem cells_zero : (Value.agg #[.int .i64 0, .int .i64 0, .string ⟨#[]⟩]).cells = #[.int .i64 0, .int .i64 0, .string ⟨#[]⟩] := by rfl
theorem infoBool : (Tryz.prog.info? 4).map (fun i => (i.zero, i.size, i.bytes)) = some (some (.bool false), 1, 1) := by kernel_rfl

def wr5 (w5 : World) (FB p : Nat) : World := w5.setCell ⟨FB, p, none⟩ (.bool true)

end Go.Proofs.YtnhbjhdkpbhioaaGreatDoor
