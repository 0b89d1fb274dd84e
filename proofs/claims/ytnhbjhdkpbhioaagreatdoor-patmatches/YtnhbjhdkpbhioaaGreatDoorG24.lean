import Derived.Test.YtnhbjhdkpbhioaaGreatDoorG23
namespace Go.Proofs.YtnhbjhdkpbhioaaGreatDoor
open Go.RowKit
def fromD (ao : Option Addr) (cap k : Nat) : Option Addr := if cap = k then ao else ao.map (fun a => a.add (k * 5))
theorem nodes_from (ao : Option Addr) (n cap k : Nat) (K : Int) (w : World) (hK : K = (k : Int)) (hk : k ≤ n) :
    (Instr.slice 41 (.slice ao n cap) (some (.int .i64 K)) none none).run Tryz.prog w = .ok (.slice (fromD ao cap k) (n - k) (cap - k)) w := by
  subst hK
  have hz : Tryz.t43.size = 5 := by kernel_rfl
  have h := run_slice_l (P := Tryz.prog) w 41 ao n cap (by kernel_rfl) .i64 (k : Int) (by omega) (by omega)
  rw [h]
  have he : Tryz.prog.elem 41 = 43 := by kernel_rfl
  rw [he]
  simp [sizeOf, hz, sliced, fromD, Result.andThen]
theorem NdsAt.dropD {w : World} {S : Nat → Prop} {b : Nat} : ∀ {l : List Nd} {o : Nat} (k : Nat), NdsAt w S b o l → NdsAt w S b (o + k * 5) (l.drop k)
  | l, o, 0, h => by rw [Nat.zero_mul, Nat.add_zero, List.drop_zero]; exact h
  | [], o, k + 1, _ => by rw [List.drop_nil]; exact NdsAt_nil _ _ _ _
  | ⟨k', a, i, s, l⟩ :: r, o, k + 1, h => by
    rw [NdsAt_cons] at h
    rw [List.drop_succ_cons, show o + (k + 1) * 5 = o + 5 + k * 5 by omega]
    exact NdsAt.dropD k h.2.2
theorem IsNds.dropD {w : World} {S : Nat → Prop} {ao : Option Addr} {l : List Nd} {cap : Nat} (h : IsNds w S ao l) (hc : l.length ≤ cap) (k : Nat) : IsNds w S (fromD ao cap k) (l.drop k) := by
  obtain ⟨b, o, h1, h2⟩ := h
  refine ⟨b, o + k * 5, fun hne => ?_, h2.dropD k⟩
  have hl : k < l.length := by
    rcases Nat.lt_or_ge k l.length with h | h
    · exact h
    · exact absurd (List.drop_eq_nil_of_le h) hne
  have ha := h1 (by rintro rfl; simp at hl)
  subst ha
  unfold fromD
  rw [if_neg (by omega)]
  exact congrArg some (Go.WideShapes.add_plain ..)
structure TpW (w wr : World) (K A I : Int) (Y : ByteArray) (ao : Option Addr) (M cap TB : Nat) (tn : ByteArray) (v : Value) (acc : List Sl) : Prop where
  bel : Below w.heap.size w wr
  n : Bx wr w.heap.size #[.int .i64 K, .int .i64 A, .int .i64 I, .string Y, .slice ao M cap]
  r : Bx wr (w.heap.size + 1) #[.string ⟨#[]⟩, .slice none 0 0]
  t : Bx wr TB #[.string tn, v]
  own : wr.ownsRow (TB + 1) 143 4 v acc.length (slsC acc)
  lt : w.heap.size + 1 < TB
theorem TpW.next {w wr w' : World} {K A I : Int} {Y : ByteArray} {ao : Option Addr} {M cap TB : Nat} {tn : ByteArray} {v : Value} {acc : List Sl} (h : TpW w wr K A I Y ao M cap TB tn v acc) (hb : Below wr.heap.size wr w') : TpW w w' K A I Y ao M cap TB tn v acc :=
  ⟨next_trans h.bel hb, h.n.next hb, h.r.next hb, h.t.next hb, own_next h.own hb, h.lt⟩
end Go.Proofs.YtnhbjhdkpbhioaaGreatDoor
