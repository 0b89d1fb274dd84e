/- A memory with a thousand facts, plainly. -/
import Derived.Test.YtgjnnahflaaagaaDoorWmKnown
namespace Go.Proofs.YtgjnnahflaaagaaDoor
open Go.RowKit Go.Maps

def tS : ByteArray := ⟨#[116]⟩
def FullP (F : List Ft) (k : Nat) : Prop := F.length = k ∧ ∀ j f, F[j]? = some f → f.id = j + 1 ∧ f.t = ⟨#[116]⟩ ∧ f.l = [⟨1, ((j + 1 : Nat) : Int), ⟨#[]⟩⟩]
theorem full_nil : FullP [] 0 := ⟨rfl, fun j f h => by simp at h⟩
theorem full_snoc {F : List Ft} {k : Nat} (h : FullP F k) (a : Option Addr) (c : Nat) : FullP (F ++ [⟨k + 1, ⟨#[116]⟩, [⟨1, ((k + 1 : Nat) : Int), ⟨#[]⟩⟩], a, c⟩]) (k + 1) := by
  refine ⟨by simp [h.1], fun j f hj => ?_⟩
  by_cases hl : j < F.length
  · rw [List.getElem?_append_left hl] at hj
    exact h.2 j f hj
  · rw [List.getElem?_append_right (by omega), h.1] at hj
    obtain ⟨q, hq⟩ : ∃ q, j - k = q := ⟨_, rfl⟩
    rw [hq] at hj
    cases q with
    | zero =>
      simp at hj
      subst hj
      have : j = k := by have := h.1; omega
      subst this
      exact ⟨rfl, rfl, rfl⟩
    | succ q => simp at hj
theorem one_inj {x y : Int} (h : keyB ⟨#[116]⟩ [⟨1, x, ⟨#[]⟩⟩] = keyB ⟨#[116]⟩ [⟨1, y, ⟨#[]⟩⟩]) : x = y := by
  have := (keyB_inj h).2
  injection this with this _
  injection this with _ this _
theorem full_no {F : List Ft} {k : Nat} (h : FullP F k) {x : Int} (hx : x < 1 ∨ (k : Int) < x) : idOf F (keyB ⟨#[116]⟩ [⟨1, x, ⟨#[]⟩⟩]) = 0 := by
  refine idOf_none _ _ fun f hf e => ?_
  obtain ⟨j, hj⟩ := List.getElem?_of_mem hf
  obtain ⟨_, h2, h3⟩ := h.2 j f hj
  have hlt := (List.getElem?_eq_some_iff.1 hj).1
  unfold Ft.key at e
  rw [h2, h3] at e
  have := one_inj e
  have := h.1
  omega
theorem full_yes {F : List Ft} {k last : Nat} (h : FullP F k) (hg : Good F last) {x : Nat} (h1 : 1 ≤ x) (h2 : x ≤ k) : ∃ f, F[x - 1]? = some f ∧ f.id = x ∧ idOf F (keyB ⟨#[116]⟩ [⟨1, (x : Int), ⟨#[]⟩⟩]) = x := by
  have hl : x - 1 < F.length := by rw [h.1]; omega
  have hf : F[x - 1]? = some F[x - 1] := List.getElem?_eq_getElem hl
  obtain ⟨a, b, c⟩ := h.2 _ _ hf
  have hx : x - 1 + 1 = x := by omega
  rw [hx] at a c
  refine ⟨_, hf, a, ?_⟩
  have := idOf_of F F[x - 1] hg.one (List.getElem_mem _)
  unfold Ft.key at this
  rw [b, c, a] at this
  exact this
theorem full_gone {F : List Ft} {k p last : Nat} (h : FullP F k) (hg : Good F last) {f : Ft} (hf : F[p]? = some f) : idOf (F.eraseIdx p) (keyB ⟨#[116]⟩ [⟨1, 0, ⟨#[]⟩⟩]) = 0 := by
  rw [idOf_erase F p f _ hg.one hf, full_no h (.inl (by omega))]
  split <;> rfl
end Go.Proofs.YtgjnnahflaaagaaDoor
