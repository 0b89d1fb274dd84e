/- A twin beside the elder memory, which is emptied. -/
import Derived.Test.YtgjnnahflaaagaaDoorPlaysS
namespace Go.Proofs.YtgjnnahflaaagaaDoor
open Go.RowKit Go.Maps

structure TwW (w wq : World) (S b b2 : Nat) (v m v2 m2 rv : Value) (last k j : Nat) (F G R : List Ft) : Prop where
  old : LW w wq b v m last (F.drop j)
  low : ∀ q, Foot b v m q → q < S
  twin : Mem wq S b2 v2 m2 last G
  tl : G.map Ft.fc = F.map Ft.fc
  s : w.heap.size ≤ S
  rr : Rw 34 wq w.heap.size rv R
  like : F.map Ft.fc = R.map Ft.fc
  le : last ≤ k
theorem TwW.next {w wq w' : World} {S b b2 last k j : Nat} {v m v2 m2 rv : Value} {F G R : List Ft} (h : TwW w wq S b b2 v m v2 m2 rv last k j F G R) (hb : Below wq.heap.size wq w') : TwW w w' S b b2 v m v2 m2 rv last k j F G R :=
  ⟨h.old.next hb, h.low, h.twin.next hb, h.tl, h.s, h.rr.next hb, h.like, h.le⟩
theorem TwW.start {w wr w2 : World} {b b2 last k : Nat} {v m v2 m2 rv : Value} {F G R : List Ft} (h : PW w wr b v m rv last k F R) (hm : Mem w2 wr.heap.size b2 v2 m2 last G) (he : G.map Ft.fc = F.map Ft.fc) (hb : Below wr.heap.size wr w2) : TwW w w2 wr.heap.size b b2 v m v2 m2 rv last k 0 F G R :=
  ⟨by rw [List.drop_zero]; exact h.lw.next hb, fun q hq => (h.lw.mem.foot hq).2, hm, he, h.lw.bel.size, h.rr.next hb, h.like, h.le⟩
theorem TwW.step {w wq w' : World} {S b b2 last k j : Nat} {v m v' v2 m2 rv : Value} {F G R : List Ft} (h : TwW w wq S b b2 v m v2 m2 rv last k j F G R) (hl : Left wq w' w.heap.size b v m v' m last ((F.drop j).eraseIdx 0)) (ho : v'.ownBlock = v.ownBlock) : TwW w w' S b b2 v' m v2 m2 rv last k (j + 1) F G R := by
  obtain ⟨h1, h2, h3⟩ := h.old.left hl
  have hd : (F.drop j).eraseIdx 0 = F.drop (j + 1) := by
    rw [← List.drop_drop]
    cases F.drop j <;> rfl
  rw [hd] at h1
  refine ⟨h1, fun q hq => ?_, h.twin.kept fun q hq hlt => ?_, h.tl, h.s, h2.rw h.rr (by decide) (by decide), h.like, h.le⟩
  · rcases hq with e | e | e
    · exact h.low q (.inl e)
    · exact h.low q (.inr (.inl (by rw [← ho]; exact e)))
    · exact h.low q (.inr (.inr e))
  · exact hl.tch.block q hlt (fun hf => by have := h.low q hf; omega)
theorem TwW.done {w wq : World} {S b b2 last k j : Nat} {v m v2 m2 rv : Value} {F G R : List Ft} (h : TwW w wq S b b2 v m v2 m2 rv last k j F G R) : PW w wq b2 v2 m2 rv last (k + 1) G R :=
  ⟨⟨h.old.bel, h.twin.base h.s, h.old.tab⟩, h.rr, h.tl.trans h.like, Nat.le_succ_of_le h.le⟩
theorem TwW.retract {w wq : World} {S b b2 last k j : Nat} {v m v2 m2 rv : Value} {F G R : List Ft} (h : TwW w wq S b b2 v m v2 m2 rv last k j F G R) {g : Ft} (hg : R[j]? = some g) (x : Int) (hx : (g.id : Int) = x) :
    Calls Tryd.prog 13 #[.pointer (some ⟨b, 0, none⟩), .int .i64 x] wq fun e w' => e = .returned (.bool true) ∧ ∃ v', TwW w w' S b b2 v' m v2 m2 rv last k (j + 1) F G R := by
  obtain ⟨f, hf, hfc⟩ := like_get h.like.symm hg
  have hfi : f.id = g.id := congrArg Prod.fst hfc
  have hd : (F.drop j)[0]? = some f := by rw [List.getElem?_drop]; exact hf
  refine (retract_yes wq w.heap.size b last 0 v m (F.drop j) f h.old.mem hd h.old.small x (by rw [hfi]; exact hx) h.old.tabr).mono ?_
  rintro e w' ⟨he, v', hl, ho⟩
  exact ⟨he, v', h.step hl ho⟩
end Go.Proofs.YtgjnnahflaaagaaDoor
