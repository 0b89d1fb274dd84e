/- Plays, plainly: which fact an act speaks of. The law's state between two acts. -/
import Derived.Test.YtgjnnahflaaagaaDoorWmKnown
import Derived.Test.YtgjnnahflaaagaaDoorWmActs
import Derived.Test.YtgjnnahflaaagaaDoorValRight3
namespace Go.Proofs.YtgjnnahflaaagaaDoor
open Go.RowKit Go.Maps

def hitF (op id : Int) (K : ByteArray) (f : Ft) : Bool := if op = 1 then decide (f.key = K) else if op = 2 then decide ((f.id : Int) = id) else false
def lastI (P : Ft → Bool) (R : List Ft) : Nat → Int
  | 0 => -1
  | k + 1 => match R[k]? with
    | some f => if P f = true then (k : Int) else lastI P R k
    | none => lastI P R k
theorem lastI_yes {P : Ft → Bool} {R : List Ft} {k : Nat} {f : Ft} (h : R[k]? = some f) (hp : P f = true) : lastI P R (k + 1) = (k : Int) := by
  show (match R[k]? with | some f => if P f = true then (k : Int) else lastI P R k | none => lastI P R k) = _
  rw [h]; simp [hp]
theorem lastI_no {P : Ft → Bool} {R : List Ft} {k : Nat} {f : Ft} (h : R[k]? = some f) (hp : P f = false) : lastI P R (k + 1) = lastI P R k := by
  show (match R[k]? with | some f => if P f = true then (k : Int) else lastI P R k | none => lastI P R k) = _
  rw [h]; simp [hp]
theorem lastI_none {P : Ft → Bool} {R : List Ft} (h : ∀ f ∈ R, P f = false) : ∀ k, k ≤ R.length → lastI P R k = -1
  | 0, _ => rfl
  | k + 1, hk => by
    have hg : R[k]? = some R[k] := List.getElem?_eq_getElem (by omega)
    rw [lastI_no hg (h _ (List.getElem_mem _)), lastI_none h k (by omega)]
theorem lastI_one {P : Ft → Bool} {R : List Ft} {p : Nat} {f : Ft} (hp : R[p]? = some f) (ht : P f = true) (hu : ∀ j g, R[j]? = some g → P g = true → j = p) : ∀ k, k ≤ R.length → lastI P R k = if p < k then (p : Int) else -1
  | 0, _ => by simp [lastI]
  | k + 1, hk => by
    have ih := lastI_one hp ht hu k (by omega)
    by_cases e : k = p
    · subst e
      rw [lastI_yes hp ht, if_pos (by omega)]
    · have hg : R[k]? = some R[k] := List.getElem?_eq_getElem (by omega)
      have hf : P R[k] = false := by
        cases h : P R[k]
        · rfl
        · exact absurd (hu k _ hg h) e
      rw [lastI_no hg hf, ih]
      by_cases h1 : p < k
      · rw [if_pos h1, if_pos (by omega)]
      · rw [if_neg h1, if_neg (by omega)]
theorem at_one {F R : List Ft} {last : Nat} (hg : Good F last) (e : F.map Ft.fc = R.map Ft.fc) (id : Int) (K : ByteArray) :
    (idOf F K = 0 ∧ lastI (hitF 1 id K) R R.length = -1) ∨ (∃ (p : Nat) (f g : Ft), F[p]? = some f ∧ R[p]? = some g ∧ g.fc = f.fc ∧ f.id = idOf F K ∧ 1 ≤ f.id ∧ lastI (hitF 1 id K) R R.length = (p : Int)) := by
  have hR := hg.like e
  by_cases h : idOf F K = 0
  · refine .inl ⟨h, lastI_none (fun f hf => ?_) _ (Nat.le_refl _)⟩
    rw [idOf_like F R K e] at h
    have := idOf_zero (fun f hf => (hR.pos f hf).1) h f hf
    unfold hitF
    rw [if_pos rfl]
    exact decide_eq_false this
  · obtain ⟨f, hf, h1, h2⟩ := idOf_mem F K h
    obtain ⟨p, hp⟩ := List.getElem?_of_mem hf
    obtain ⟨g, hq, hfc⟩ := like_get e hp
    have hlt := (List.getElem?_eq_some_iff.1 hq).1
    have hgk : g.key = K := (key_of_fc hfc).trans h1
    refine .inr ⟨p, f, g, hp, hq, hfc, h2, (hg.pos f hf).1, ?_⟩
    rw [lastI_one hq (by unfold hitF; rw [if_pos rfl]; exact decide_eq_true hgk) (fun j g' hj hh => ?_) _ (Nat.le_refl _), if_pos hlt]
    unfold hitF at hh
    rw [if_pos rfl] at hh
    have hk := of_decide_eq_true hh
    have a := idOf_of R g hR.one (List.mem_of_getElem? hq)
    have b := idOf_of R g' hR.one (List.mem_of_getElem? hj)
    rw [hgk] at a
    rw [hk] at b
    exact hR.eq hj hq (b.symm.trans a)
theorem at_two {F R : List Ft} {last : Nat} (hg : Good F last) (e : F.map Ft.fc = R.map Ft.fc) (id : Int) (K : ByteArray) :
    ((∀ f ∈ F, (f.id : Int) ≠ id) ∧ lastI (hitF 2 id K) R R.length = -1) ∨ (∃ (p : Nat) (f g : Ft), F[p]? = some f ∧ R[p]? = some g ∧ g.fc = f.fc ∧ (f.id : Int) = id ∧ lastI (hitF 2 id K) R R.length = (p : Int)) := by
  have hR := hg.like e
  by_cases h : ∃ (p : Nat) (f : Ft), F[p]? = some f ∧ (f.id : Int) = id
  · obtain ⟨p, f, hp, hid⟩ := h
    obtain ⟨g, hq, hfc⟩ := like_get e hp
    have hlt := (List.getElem?_eq_some_iff.1 hq).1
    have hgi : g.id = f.id := congrArg Prod.fst hfc
    refine .inr ⟨p, f, g, hp, hq, hfc, hid, ?_⟩
    rw [lastI_one hq (by unfold hitF; rw [if_neg (by decide), if_pos rfl]; exact decide_eq_true (by omega)) (fun j g' hj hh => ?_) _ (Nat.le_refl _), if_pos hlt]
    unfold hitF at hh
    rw [if_neg (by decide), if_pos rfl] at hh
    have hk := of_decide_eq_true hh
    exact hR.eq hj hq (by omega)
  · have hn : ∀ f ∈ F, (f.id : Int) ≠ id := fun f hf hi => by
      obtain ⟨p, hp⟩ := List.getElem?_of_mem hf
      exact h ⟨p, f, hp, hi⟩
    refine .inl ⟨hn, lastI_none (fun g hg' => ?_) _ (Nat.le_refl _)⟩
    obtain ⟨f, hf, hfi, _⟩ := (by
      have : g.fc ∈ F.map Ft.fc := by rw [e]; exact List.mem_map_of_mem hg'
      obtain ⟨f, hf, he⟩ := List.mem_map.1 this
      exact ⟨f, hf, congrArg Prod.fst he, trivial⟩ : ∃ f ∈ F, f.id = g.id ∧ True)
    unfold hitF
    rw [if_neg (by decide), if_pos rfl]
    refine decide_eq_false ?_
    rw [← hfi]
    exact hn f hf
theorem at_else {op id : Int} {K : ByteArray} (h1 : op ≠ 1) (h2 : op ≠ 2) (R : List Ft) : lastI (hitF op id K) R R.length = -1 :=
  lastI_none (fun f _ => by unfold hitF; rw [if_neg h1, if_neg h2]) _ (Nat.le_refl _)
theorem right_ok {v : Val} (h : rightB v.k v.i v.s = true) (hi : inB v.i = true) : v.ok := by
  obtain ⟨k, i, s⟩ := v
  simp only at h hi
  rcases right_kind h with rfl | rfl | rfl
  · rw [right_int] at h
    have := of_decide_eq_true h
    exact ⟨show inB 1 = true by decide, hi, by show s.size ≤ 100000; omega⟩
  · rw [right_sym, Bool.and_eq_true] at h
    have := h.2
    unfold symB at this
    rw [Bool.and_eq_true] at this
    have := of_decide_eq_true this.1
    exact ⟨show inB 2 = true by decide, hi, by show s.size ≤ 100000; omega⟩
  · rw [right_str] at h
    have := of_decide_eq_true h
    exact ⟨show inB 3 = true by decide, hi, by show s.size ≤ 100000; omega⟩

/-- The law's state between two acts. -/
structure PW (w wr : World) (b : Nat) (v m rv : Value) (last k : Nat) (F R : List Ft) : Prop where
  lw : LW w wr b v m last F
  rr : Rw 34 wr w.heap.size rv R
  like : F.map Ft.fc = R.map Ft.fc
  le : last ≤ k
theorem PW.next {w wr w' : World} {b last k : Nat} {v m rv : Value} {F R : List Ft} (h : PW w wr b v m rv last k F R) (hb : Below wr.heap.size wr w') : PW w w' b v m rv last k F R :=
  ⟨h.lw.next hb, h.rr.next hb, h.like, h.le⟩
theorem PW.len {w wr : World} {b last k : Nat} {v m rv : Value} {F R : List Ft} (h : PW w wr b v m rv last k F R) : R.length ≤ k := by
  have h1 := h.lw.len
  have h2 := like_len h.like
  have h3 := h.le
  omega
theorem PW.okr {w wr : World} {b last k : Nat} {v m rv : Value} {F R : List Ft} (h : PW w wr b v m rv last k F R) : ∀ f ∈ R, FtOk f := (h.lw.mem.good.like h.like).ok
/-- All of the memory is what the row says. -/
theorem PW.all {w wr : World} {b last k : Nat} {v m : Value} {ro : Option Addr} {rn rc : Nat} {F R : List Ft} (h : PW w wr b v m (.slice ro rn rc) last k F R) (hk : k ≤ 200) :
    Calls Tryd.prog 15 #[.pointer (some ⟨b, 0, none⟩)] wr fun e w' => ∃ ao cap, e = .returned (.slice ao rn cap) ∧ Below wr.heap.size wr w' ∧
      Hid (Calls Tryd.prog 18 #[.slice ao rn cap] w' fun e w2 => ∃ ao2 cap2, e = .returned (.slice ao2 rn cap2) ∧ Below w'.heap.size w' w2 ∧
        Hid (Calls Tryd.prog 17 #[.slice ao2 rn cap2, .slice ro rn rc] w2 fun e w3 => e = .returned (.bool true) ∧ Below w2.heap.size w2 w3)) := by
  have hrn := h.rr.len
  refine (all_any wr w.heap.size b last v m F h.lw.mem h.lw.small).mono ?_
  rintro e w' ⟨v', G, he, hR, hE, hb⟩
  obtain ⟨ao, cap, rfl, _, _⟩ := hR.slice
  have hgn : G.length = rn := by rw [like_len hE, like_len h.like, hrn]
  rw [hgn] at he hR
  have hl := h.len
  rw [← hrn] at hl
  refine ⟨ao, cap, he, hb, ?_⟩
  refine (lof_any w' w.heap.size rn cap ao G (hR.base h.lw.bel.size) (next_trans h.lw.bel hb).size (by omega)).mono ?_
  rintro e w2 ⟨ao2, cap2, he2, hR2, hb2⟩
  refine ⟨ao2, cap2, he2, hb2, ?_⟩
  have hR3 := h.rr.next (next_trans hb hb2)
  refine same_yes w2 rn cap2 rc ao2 ro G R hR2.fts hR3.fts hgn (hE.trans h.like) (fun f hf => ?_) (by omega)
  have hok := (h.lw.mem.good.like (hE.symm)).ok f hf
  exact hok.2.1
end Go.Proofs.YtgjnnahflaaagaaDoor
