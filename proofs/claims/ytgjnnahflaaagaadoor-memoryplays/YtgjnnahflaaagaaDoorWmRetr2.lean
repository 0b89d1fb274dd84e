/- The walk of Retract. -/
import Derived.Test.YtgjnnahflaaagaaDoorWmRetr
namespace Go.Proofs.YtgjnnahflaaagaaDoor
open Go.RowKit Go.Maps

set_option maxHeartbeats 1000000 in
theorem retract_no (w : World) (B b last : Nat) (v m : Value) (F : List Ft) (M : Mem w B b v m last F) (hn : F.length ≤ 5000) (x : Int) (hx : ∀ f ∈ F, (f.id : Int) ≠ x) :
    Calls Tryd.prog 13 #[.pointer (some ⟨b, 0, none⟩), .int .i64 x] w fun e w' => e = .returned (.bool false) ∧ Below w.heap.size w w' := by
  have HP : Hid (Calls Tryd.prog 28 #[.pointer (some ⟨b, 0, none⟩), .int .i64 x] w fun e w' => ∃ i : Nat, e = .returned (.tuple #[.int .i64 i, .bool (hitB F x i)]) ∧ LowAt F x i ∧ Below w.heap.size w w') := place_any w B b last v m F M hn x
  clear M
  go_enter Tryd.func13, Tryd.ntmps13
  go_wp2_with fail
  refine HP.out.mono ?_
  rintro e w1 ⟨i, rfl, hl, hb⟩
  rw [hit_no hx i]
  clear hl HP hx
  go_wp2
  go_ret
  exact ⟨rfl, hb⟩

set_option maxHeartbeats 4000000 in
set_option maxRecDepth 4000 in
theorem retract_yes (w : World) (B b last p : Nat) (v m : Value) (F : List Ft) (f : Ft) (M : Mem w B b v m last F) (hf : F[p]? = some f) (hn : F.length ≤ 5000) (x : Int) (hx : (f.id : Int) = x) (ht : TabW w) :
    Calls Tryd.prog 13 #[.pointer (some ⟨b, 0, none⟩), .int .i64 x] w fun e w' => e = .returned (.bool true) ∧ ∃ v', Left w w' B b v m v' m last (F.eraseIdx p) ∧ v'.ownBlock = v.ownBlock := by
  subst hx
  have hpl := (List.getElem?_eq_some_iff.1 hf).1
  obtain ⟨bm, rfl⟩ : ∃ bm, m = .map (some bm) := by
    rcases M.map with ⟨e, _⟩ | ⟨bm, e, _⟩
    · subst e; simp at hf
    · exact ⟨bm, e⟩
  obtain ⟨ao, cap, rfl, hnc, hne⟩ := M.rw.slice
  obtain ⟨g, rfl⟩ := hne (fun e => by subst e; simp at hf)
  obtain ⟨N, hN⟩ : ∃ N, F.length = N := ⟨_, rfl⟩
  have hpl2 : p < N := by omega
  have hnc2 : N ≤ cap := by omega
  have hn2 : N ≤ 5000 := by omega
  have hok := M.good.ok f (List.mem_of_getElem? hf)
  have hv := M.rw.vals f (List.mem_of_getElem? hf)
  rw [hN] at M
  obtain ⟨I, HI⟩ : ∃ I : Int, Hid ((f.id : Int) = I) := ⟨_, rfl⟩
  obtain ⟨K, HK⟩ : ∃ K, Hid (f.key = K) := ⟨_, rfl⟩
  obtain ⟨T, HT⟩ : ∃ T, Hid (f.t = T) := ⟨_, rfl⟩
  obtain ⟨sa, sn, sc, HS⟩ : ∃ sa sn sc, Hid (f.a = sa ∧ f.l.length = sn ∧ f.c = sc) := ⟨_, _, _, rfl, rfl, rfl⟩
  have HP : Hid (Calls Tryd.prog 28 #[.pointer (some ⟨b, 0, none⟩), .int .i64 I] w fun e w' => ∃ i : Nat, e = .returned (.tuple #[.int .i64 i, .bool (hitB F I i)]) ∧ LowAt F I i ∧ Below w.heap.size w w') := place_any w B b last _ _ F M hn I
  have HL : Hid (∀ i, LowAt F I i → i = p ∧ hitB F I i = true) := by
    intro i hi
    rw [← HI.out] at hi ⊢
    obtain rfl := hit_yes M.good hf hi
    exact ⟨rfl, by rw [hit_at hf]; simp⟩
  have HC : Hid (∀ w', Below w.heap.size w w' → Calls Tryd.prog 26 #[.string T, .slice sa sn sc] w' fun e w2 => e = .returned (.string K) ∧ Below w'.heap.size w' w2) := by
    intro w' hb
    rw [← HK.out, ← HT.out, ← HS.out.1, ← HS.out.2.1, ← HS.out.2.2]
    exact key_any f.t f.a f.c _ f.l w' rfl (hv.next hb).vals (fun e => by obtain ⟨e1, e2⟩ := hv.nil e; exact ⟨by rw [e1]; rfl, e2⟩) hok.2.1 hok.1 hok.2.2 (tab_next ht hb)
  have cells : ∀ W, Rw 44 W B (.slice (some ⟨g, 0, none⟩) N cap) F → W.cell? ⟨g, p * 3 + 1, none⟩ = some (.string T) ∧ W.cell? ⟨g, p * 3 + 2, none⟩ = some (.slice sa sn sc) := by
    intro W R
    obtain ⟨g', e, _, h1, h2⟩ := R.at hf
    obtain rfl : g = g' := by injection e with e; injection e
    rw [HT.out] at h1
    rw [HS.out.1, HS.out.2.1, HS.out.2.2] at h2
    exact ⟨h1, h2⟩
  have HCe : Hid (∀ w', Below w.heap.size w w' → w'.cell? ⟨b, 0, none⟩ = some (.slice (some ⟨g, 0, none⟩) N cap) ∧ w'.cell? ⟨b, 1, none⟩ = some (.map (some bm)) ∧ w'.cell? ⟨g, p * 3 + 1, none⟩ = some (.string T) ∧ w'.cell? ⟨g, p * 3 + 2, none⟩ = some (.slice sa sn sc)) := by
    intro w' hb
    have M' := M.next hb
    exact ⟨M'.box.cell 0, M'.box.cell 1, (cells w' M'.rw).1, (cells w' M'.rw).2⟩
  have HD : Hid (∀ w', Below w.heap.size w w' → ∃ w3, (Builtin.delete_ #[59, 9] 0 #[.map (some bm), .string K]).run Tryd.prog w' = .ok (.tuple #[]) w3 ∧ Hid (Half w3 B b (.slice (some ⟨g, 0, none⟩) N cap) bm last p F ∧ Touch w' w3 (Foot b (.slice (some ⟨g, 0, none⟩) N cap) (.map (some bm)))) ∧
      w3.cell? ⟨b, 0, none⟩ = some (.slice (some ⟨g, 0, none⟩) N cap) ∧ w3.cell? ⟨b, 1, none⟩ = some (.map (some bm)) ∧ w3.cell? ⟨g, p * 3 + 1, none⟩ = some (.string T) ∧ w3.cell? ⟨g, p * 3 + 2, none⟩ = some (.slice sa sn sc)) := by
    intro w' hb
    obtain ⟨w3, h1, h2, h3⟩ := (M.next hb).forget hf 0
    rw [HK.out] at h1
    exact ⟨w3, h1, ⟨h2, h3⟩, h2.box.cell 0, h2.box.cell 1, (cells w3 h2.rw).1, (cells w3 h2.rw).2⟩
  have HF : Hid (F.length = N ∧ F[p]? = some f) := ⟨hN, hf⟩
  rw [HI.out]
  clear cells hok hv M hf hpl hnc hne hn hN ht HI HK HT HS
  have p1 : (p : Int) < (N : Int) := by omega
  have p0 : (0 : Int) ≤ (p : Int) := by omega
  go_enter Tryd.func13, Tryd.ntmps13
  go_wp2_with fail
  refine HP.out.mono ?_
  rintro e w1 ⟨i, rfl, hl, hb1⟩
  obtain ⟨rfl, hh⟩ := HL.out i hl
  rw [hh]
  have HB1 : Hid (Below w.heap.size w w1.drew) := hb1.drew
  obtain ⟨c0, c1, c2, c3⟩ := HCe.out w1 hb1
  clear hl HP HL hh hb1
  go_wp2_with fail
  go_region_held3 (fun w' => w'.cell? ⟨b, 0, none⟩ = some (.slice (some ⟨g, 0, none⟩) N cap) ∧ w'.cell? ⟨b, 1, none⟩ = some (.map (some bm)) ∧ w'.cell? ⟨g, i * 3 + 1, none⟩ = some (.string T) ∧ w'.cell? ⟨g, i * 3 + 2, none⟩ = some (.slice sa sn sc))
    (((try dsimp only); go_split_ands; refine ⟨?_, ?_, ?_, ?_⟩ <;> first | assumption | exact keep_cell (by assumption) (by assumption)))
    (first | (go_at_call 26; refine (HC.out _ HB1.out).mono ?_; rintro e w2 ⟨rfl, hb2⟩; obtain ⟨w3, hrun, HH, d0, d1, d2, d3⟩ := HD.out w2 (next_trans HB1.out hb2)))
  obtain ⟨M, HM⟩ : ∃ M, Hid (N = M + 1) := ⟨N - 1, by rw [Hid]; omega⟩
  have hrow : w3.ownsRow B 44 3 (.slice (some ⟨g, 0, none⟩) N cap) N (ftsC F) := by
    have := HH.out.1.rw.row
    rw [HF.out.1] at this
    exact this
  have hd := delete_any w3 B g cap i (i + 1) N M F rfl HF.out.1 HM.out hpl2 hn2 hrow
  rw [show ((i + 1 : Nat) : Int) = (i : Int) + 1 from rfl] at hd

  have HT0 : Hid (Touch w w2 (Foot b (.slice (some ⟨g, 0, none⟩) N cap) (.map (some bm)))) := Touch.ofBelow (next_trans HB1.out hb2) _
  clear hrow hrun hb2 c0 c1 c2 c3 d1 d2 d3 HC HCe HD
  go_wp2_with fail
  refine hd.mono ?_
  rintro e w4 ⟨rfl, ho, hg⟩
  have hel : (F.eraseIdx i).length = M := by rw [List.length_eraseIdx, HF.out.1]; have := HM.out; split <;> omega
  obtain ⟨x1, L⟩ := HH.out.1.close hel ho hg
  have x0 : w4.cell? ⟨b, 0, none⟩ = some (.slice (some ⟨g, 0, none⟩) N cap) := x1.cell 0
  have xf := x1.froz
  have HL : Hid (Left w (w4.setCell ⟨b, 0, none⟩ (.slice (some ⟨g, 0, none⟩) M cap)) B b (.slice (some ⟨g, 0, none⟩) N cap) (.map (some bm)) (.slice (some ⟨g, 0, none⟩) M cap) (.map (some bm)) last (F.eraseIdx i)) :=
    ⟨L.mem, (HT0.out.trans HH.out.2 (fun _ h => .inl h)).trans L.tch (fun _ h => .inl h), fun k hk => by
      rcases L.foot k hk with a | a
      · exact .inl a
      · exact .inr (Nat.le_trans (HT0.out.trans HH.out.2 (fun _ h => .inl h)).size a)⟩
  clear L ho hg x1 hd hel HM HT0 HH
  go_wp2
  go_ret
  rw [HF.out.1]
  exact ⟨rfl, _, HL.out, rfl⟩
end Go.Proofs.YtgjnnahflaaagaaDoor
