/- What Get answers, beside the law's row. -/
import Derived.Test.YtgjnnahflaaagaaDoorPlaysS
namespace Go.Proofs.YtgjnnahflaaagaaDoor
open Go.RowKit Go.Maps

def inI (R : List Ft) (x : Int) : Nat → Bool
  | 0 => false
  | j + 1 => inI R x j || (match R[j]? with | some f => decide ((f.id : Int) = x) | none => false)
theorem inI_succ {R : List Ft} {x : Int} {j : Nat} {f : Ft} (h : R[j]? = some f) : inI R x (j + 1) = (inI R x j || decide ((f.id : Int) = x)) := by
  show (inI R x j || (match R[j]? with | some f => decide ((f.id : Int) = x) | none => false)) = _
  rw [h]
theorem inI_true {R : List Ft} {x : Int} {p : Nat} {f : Ft} (h : R[p]? = some f) (hx : (f.id : Int) = x) : ∀ j, p < j → inI R x j = true
  | 0, hj => by omega
  | j + 1, hj => by
    by_cases e : p = j
    · subst e
      rw [inI_succ h, decide_eq_true hx, Bool.or_true]
    · show (inI R x j || _) = true
      rw [inI_true h hx j (by omega), Bool.true_or]
theorem inI_false {R : List Ft} {x : Int} (h : ∀ f ∈ R, (f.id : Int) ≠ x) : ∀ j, inI R x j = false
  | 0 => rfl
  | j + 1 => by
    show (inI R x j || (match R[j]? with | some f => decide ((f.id : Int) = x) | none => false)) = false
    rw [inI_false h j, Bool.false_or]
    cases e : R[j]? with
    | none => rfl
    | some f => exact decide_eq_false (h f (List.mem_of_getElem? e))
/-- Get: what it answers, and whether. -/
theorem PW.get {w wr : World} {b last k : Nat} {v m : Value} {ro : Option Addr} {rn rc : Nat} {F R : List Ft} (h : PW w wr b v m (.slice ro rn rc) last k F R) (hk : k ≤ 200) (x : Int) :
    Calls Tryd.prog 21 #[.pointer (some ⟨b, 0, none⟩), .int .i64 x] wr fun e w' => ∃ (gi : Int) (t : ByteArray) (n : Nat) (a : Option Addr) (c : Nat) (l : List Val), e = .returned (.tuple #[.agg #[.int .i64 gi, .string t, .slice a n c], .bool (inI R x rn)]) ∧ Below wr.heap.size wr w' ∧
      Hid (l.length = n ∧ ValsAt w' w.heap.size a c l) ∧ Hid (∀ (j : Nat) (f : Ft), R[j]? = some f → (f.id : Int) = x → gi = x ∧ l.length ≤ 50 ∧ f.fc = Ft.fc ⟨f.id, t, l, a, c⟩) := by
  have hrn := h.rr.len
  have hFl := like_len h.like
  have hl := h.len
  have hgF := h.lw.mem.good
  by_cases e : ∃ (p : Nat) (f : Ft), F[p]? = some f ∧ (f.id : Int) = x
  · obtain ⟨p, f, hp, hx⟩ := e
    obtain ⟨g, hq, hfc⟩ := like_get h.like hp
    have hlt := (List.getElem?_eq_some_iff.1 hq).1
    have hgi : g.id = f.id := congrArg Prod.fst hfc
    refine (get_yes wr w.heap.size b last p v m F f h.lw.mem hp (by omega) x hx).mono ?_
    rintro e w' ⟨a', c', he, hv, hb⟩
    refine ⟨x, f.t, f.l.length, a', c', f.l, ?_, hb, ⟨rfl, hv.base h.lw.bel.size⟩, ?_⟩
    · rw [he, inI_true hq (by omega) rn (by omega)]
    · intro j f' hj hx'
      have hjp : j = p := (hgF.like h.like).eq hj hq (by omega)
      subst hjp
      rw [hq] at hj
      obtain rfl := Option.some.inj hj
      refine ⟨rfl, (hgF.ok f (List.mem_of_getElem? hp)).2.1, ?_⟩
      rw [hfc, ← show Ft.fc ⟨f.id, f.t, f.l, a', c'⟩ = f.fc from rfl, hgi]
  · have hn : ∀ f ∈ F, (f.id : Int) ≠ x := fun f hf hi => by
      obtain ⟨p, hp⟩ := List.getElem?_of_mem hf
      exact e ⟨p, f, hp, hi⟩
    have hnR : ∀ f ∈ R, (f.id : Int) ≠ x := fun f hf hi => by
      obtain ⟨p, hp⟩ := List.getElem?_of_mem hf
      obtain ⟨g, hq, hfc⟩ := like_get h.like.symm hp
      have hgi : g.id = f.id := congrArg Prod.fst hfc
      exact e ⟨p, g, hq, by omega⟩
    refine (get_no wr w.heap.size b last v m F h.lw.mem (by omega) x hn).mono ?_
    rintro e w' ⟨he, hb⟩
    refine ⟨0, ⟨#[]⟩, 0, none, 0, [], ?_, hb, ⟨rfl, ValsAt.none _ _⟩, ?_⟩
    · rw [he, inI_false hnR rn]
    · intro j f hj hx
      exact absurd hx (hnR f (List.mem_of_getElem? hj))
/-- One fact of a row, where it lies. -/
theorem fts_one {T : Nat} {w : World} {B g n cap : Nat} {R : List Ft} (h : Rw T w B (.slice (some ⟨g, 0, none⟩) n cap) R) {j : Nat} {f : Ft} (hj : R[j]? = some f) : FtsA w (some ⟨g, j * 3, none⟩) [f] := by
  intro q f' hq
  cases q with
  | zero =>
    obtain rfl : f = f' := by simpa using hq
    obtain ⟨g', e, h1, h2, h3⟩ := h.at hj
    injection e with e
    injection e with e
    subst e
    exact ⟨g, j * 3, rfl, h1, h2, h3, (h.vals f (List.mem_of_getElem? hj)).vals⟩
  | succ q => simp at hq
/-- A row of the one fact that Get answered. -/
theorem lit_row {w : World} {B i n c : Nat} {t : ByteArray} {a : Option Addr} {l : List Val} (hn : l.length = n) (hv : ValsAt w B a c l) (hB : B ≤ w.heap.size) :
    Rw 44 (w.alloc (.cells #[.int .i64 i, .string t, .slice a n c] 44)) B (.slice (some ⟨w.heap.size, 0, none⟩) 1 1) [⟨i, t, l, a, c⟩] := by
  subst hn
  refine ⟨⟨rfl, .inr ⟨w.heap.size, 1, _, rfl, hB, heap_alloc_new w _, Nat.le_refl _, by decide, rfl, ?_⟩⟩, fun f hf => ?_⟩
  · rfl
  · simp at hf
    subst hf
    exact hv.next (alloc_below w _)
/-- Of that row, and Same with the row's own fact. -/
theorem lit_same {w w' : World} {B i n c g rn rc j : Nat} {t : ByteArray} {a : Option Addr} {l : List Val} {R : List Ft} {f : Ft} (hn : l.length = n) (hv : ValsAt w B a c l) (hB : B ≤ w.heap.size) (hR : Rw 34 w B (.slice (some ⟨g, 0, none⟩) rn rc) R) (hj : R[j]? = some f) (h50 : l.length ≤ 50) (hfc : f.fc = Ft.fc ⟨i, t, l, a, c⟩) (hw : w.alloc (.cells #[.int .i64 i, .string t, .slice a n c] 44) = w') :
    Calls Tryd.prog 18 #[.slice (some ⟨w.heap.size, 0, none⟩) 1 1] w' fun e w2 => ∃ ao2 cap2, e = .returned (.slice ao2 1 cap2) ∧ Below w'.heap.size w' w2 ∧
      Hid (∀ cb, Calls Tryd.prog 17 #[.slice ao2 1 cap2, .slice (some ⟨g, j * 3, none⟩) 1 cb] w2 fun e w3 => e = .returned (.bool true) ∧ Below w2.heap.size w2 w3) := by
  have hb0 := alloc_below w (.cells #[.int .i64 i, .string t, .slice a n c] 44)
  have hr := lit_row (i := i) (t := t) hn hv hB
  rw [hw] at hr hb0
  refine (lof_any w' B 1 1 _ _ hr (Nat.le_trans hB hb0.size) (by decide)).mono ?_
  rintro e w2 ⟨ao2, cap2, he, hR2, hb⟩
  refine ⟨ao2, cap2, he, hb, fun cb => ?_⟩
  have hR3 := hR.next (next_trans hb0 hb)
  refine same_yes w2 1 cap2 cb ao2 _ [⟨i, t, l, a, c⟩] [f] hR2.fts (fts_one hR3 hj) rfl ?_ (fun f' hf' => ?_) (by decide)
  · simp only [List.map_cons, List.map_nil]; rw [hfc]
  · simp at hf'
    subst hf'
    exact h50
end Go.Proofs.YtgjnnahflaaagaaDoor
