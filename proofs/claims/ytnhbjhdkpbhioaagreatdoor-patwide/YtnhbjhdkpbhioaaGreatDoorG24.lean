/- Package tmpl's Parse. -/
import Derived.Test.YtnhbjhdkpbhioaaGreatDoorG23
namespace Go.Proofs.YtnhbjhdkpbhioaaGreatDoor
open Go.RowKit

theorem parT_head {x : Nd} (h : headN x ≠ wTmpl) : parT x = .error (x.a, 2) := by unfold parT; rw [if_neg h]
theorem parT_len {x : Nd} (h : x.l.length < 2) : parT x = .error (x.a, 2) := by
  obtain ⟨k, a, i, s, l⟩ := x
  simp only at h
  unfold parT
  split
  · match l, h with
    | [], _ => rfl
    | [_], _ => rfl
  · rfl
theorem parT_name {x m : Nd} (h1 : x.l[1]? = some m) (hn : nameB m = false) : parT x = .error (x.a, 2) := by
  obtain ⟨k, a, i, s, l⟩ := x
  simp only at h1
  unfold parT
  split
  · match l, h1 with
    | [], _ => rfl
    | [_], _ => rfl
    | _ :: y :: r, h1 => simp at h1; subst h1; simp [hn]
  · rfl
theorem parT_go {x m : Nd} (h : headN x = wTmpl) (h1 : x.l[1]? = some m) (hn : nameB m = true) : parT x = match runT [] (x.l.drop 2) with
    | .ok l => .ok ⟨baL m.s, l⟩
    | .error p => .error p := by
  obtain ⟨k, a, i, s, l⟩ := x
  simp only at h1
  match l, h1 with
  | [], h1 => simp at h1
  | [_], h1 => simp at h1
  | _ :: y :: r, h1 =>
    simp at h1; subst h1
    unfold parT
    rw [if_pos h]
    simp only [hn, if_true]
    rfl
theorem run_step {acc : List Sl} {l : List Nd} {k : Nat} {x : Nd} (h : l[k]? = some x) : runT acc (l.drop k) = match slotR acc x with
    | .error e => .error (x.a, e)
    | .ok s => runT (acc ++ [s]) (l.drop (k + 1)) := by
  obtain ⟨hk, e⟩ := List.getElem?_eq_some_iff.1 h
  rw [List.drop_eq_getElem_cons hk, e]
  rfl
theorem slotE_ok {acc : List Sl} {x : Nd} {s : Sl} (h : slotE acc x = (s, 0)) : slotR acc x = .ok s := by
  unfold slotE at h
  split at h
  · cases h; assumption
  · rename_i e he
    cases h
    unfold slotR at he
    split at he
    · cases he
    · split at he
      · cases he
      · split at he <;> cases he
theorem slotE_bad {acc : List Sl} {x : Nd} {s : Sl} {e : Int} (h : slotE acc x = (s, e)) (he : e ≠ 0) : slotR acc x = .error e := by
  unfold slotE at h
  split at h
  · cases h; exact absurd rfl he
  · cases h; assumption
/-- Nodes from one on. -/
def fromD (ao : Option Addr) (cap k : Nat) : Option Addr := if cap = k then ao else ao.map (fun a => a.add (k * 5))
theorem nodes_from (ao : Option Addr) (n cap k : Nat) (K : Int) (w : World) (hK : K = (k : Int)) (hk : k ≤ n) :
    (Instr.slice 41 (.slice ao n cap) (some (.int .i64 K)) none none).run Tryz.prog w = .ok (.slice (fromD ao cap k) (n - k) (cap - k)) w := by
  subst hK
  have hz : Tryz.t43.size = 5 := by kernel_rfl
  have h := run_slice_l (P := Tryz.prog) w 41 ao n cap (by kernel_rfl) .i64 (k : Int) (by omega) (by omega)
  rw [h]
  have he : Tryz.prog.elem 41 = 43 := by kernel_rfl
  rw [he]
  simp [sizeOf, hz, sliced, fromD, Result.andThen]
theorem NdsAt.dropD {w : World} {S : Nat → Prop} {b : Nat} : ∀ {l : List Nd} {o : Nat} (k : Nat), NdsAt w S b o l → NdsAt w S b (o + k * 5) (l.drop k)
  | l, o, 0, h => by rw [Nat.zero_mul, Nat.add_zero, List.drop_zero]; exact h
  | [], o, k + 1, _ => by rw [List.drop_nil]; exact NdsAt_nil _ _ _ _
  | ⟨k', a, i, s, l⟩ :: r, o, k + 1, h => by
    rw [NdsAt_cons] at h
    rw [List.drop_succ_cons, show o + (k + 1) * 5 = o + 5 + k * 5 by omega]
    exact NdsAt.dropD k h.2.2
theorem IsNds.dropD {w : World} {S : Nat → Prop} {ao : Option Addr} {l : List Nd} {cap : Nat} (h : IsNds w S ao l) (hc : l.length ≤ cap) (k : Nat) : IsNds w S (fromD ao cap k) (l.drop k) := by
  obtain ⟨b, o, h1, h2⟩ := h
  refine ⟨b, o + k * 5, fun hne => ?_, h2.dropD k⟩
  have hl : k < l.length := by
    rcases Nat.lt_or_ge k l.length with h | h
    · exact h
    · exact absurd (List.drop_eq_nil_of_le h) hne
  have ha := h1 (by rintro rfl; simp at hl)
  subst ha
  unfold fromD
  rw [if_neg (by omega)]
  exact congrArg some (Go.WideShapes.add_plain ..)
/-- What Parse tells. -/
structure TpR (x : Nd) (w w' : World) (e : Ending) : Prop where
  bel : Below w.heap.size w w'
  res : (∃ t ao cap, parT x = .ok t ∧ e = .returned (.tuple #[tmV t ao cap, .nilIface]) ∧ t.l.length ≤ cap ∧ IsSls w' ao t.l) ∨
    (∃ (a : Nat) (f : Int) (B : Nat), parT x = .error (a, f) ∧ e = .returned (.tuple #[.agg #[.string ⟨#[]⟩, .slice none 0 0], .iface 133 (.pointer (some ⟨B, 0, none⟩))]) ∧ FaultAt w' B (a : Int) f)
theorem tp_fault {x : Nd} {w w3 : World} {a : Nat} {f : Int} {b B : Nat} (he : parT x = .error (a, f)) (hB : Below w.heap.size w w3) (hb : w.heap.size ≤ b) (hn : B ≠ b) (hf : FaultAt w3 B (a : Int) f) :
    TpR x w ((w3.setCell ⟨b, 0, none⟩ (.string ⟨#[]⟩)).setCell ⟨b, 1, none⟩ (.slice none 0 0)) (.returned (.tuple #[.agg #[.string ⟨#[]⟩, .slice none 0 0], .iface 133 (.pointer (some ⟨B, 0, none⟩))])) := by
  refine ⟨set_bel (set_bel hB hb) hb, .inr ⟨a, f, B, he, rfl, ?_⟩⟩
  unfold FaultAt at hf ⊢
  rw [Below.heap_setCell _ _ _ _ hn, Below.heap_setCell _ _ _ _ hn]; exact hf
/-- .. in its loop. -/
structure TpW (w wr : World) (K A I : Int) (Y : ByteArray) (ao : Option Addr) (M cap TB : Nat) (tn : ByteArray) (v : Value) (acc : List Sl) : Prop where
  bel : Below w.heap.size w wr
  n : Bx wr w.heap.size #[.int .i64 K, .int .i64 A, .int .i64 I, .string Y, .slice ao M cap]
  r : Bx wr (w.heap.size + 1) #[.string ⟨#[]⟩, .slice none 0 0]
  t : Bx wr TB #[.string tn, v]
  own : wr.ownsRow (TB + 1) 143 4 v acc.length (slsC acc)
  lt : w.heap.size + 1 < TB
theorem TpW.next {w wr w' : World} {K A I : Int} {Y : ByteArray} {ao : Option Addr} {M cap TB : Nat} {tn : ByteArray} {v : Value} {acc : List Sl} (h : TpW w wr K A I Y ao M cap TB tn v acc) (hb : Below wr.heap.size wr w') : TpW w w' K A I Y ao M cap TB tn v acc :=
  ⟨next_trans h.bel hb, h.n.next hb, h.r.next hb, h.t.next hb, own_next h.own hb, h.lt⟩

end Go.Proofs.YtnhbjhdkpbhioaaGreatDoor
