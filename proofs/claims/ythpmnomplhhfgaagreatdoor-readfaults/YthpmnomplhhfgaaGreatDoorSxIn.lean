/- The reference's In. -/
import Derived.Test.YthpmnomplhhfgaaGreatDoorG18
import Derived.Test.YthpmnomplhhfgaaGreatDoorG13
import Derived.Laws.AppendOwnNone
namespace Go.Proofs.YthpmnomplhhfgaaGreatDoor
open Go.RowKit

theorem inPt : (Tryz.prog.info? 69).map (fun i => (i.zero, i.size, i.bytes)) = some (some (.agg #[.string ⟨#[]⟩, .int .i64 0]), 2, 24) := by kernel_rfl
theorem inPt' : ∃ i, Tryz.prog.info? 69 = some i ∧ i.zero = some (.agg #[.string ⟨#[]⟩, .int .i64 0]) ∧ i.size = 2 ∧ i.bytes = 24 := by
  obtain ⟨i, h, e⟩ := Option.map_eq_some_iff.1 inPt
  simp only [Prod.mk.injEq] at e
  exact ⟨i, h, e.1, e.2.1, e.2.2⟩
/-- What In leaves: the new part ahead of the others. -/
structure InR (w w' : World) (e : Ending) (n : Int) (M : Nat) (cs : List Value) : Prop where
  res : ∃ g c, w.heap.size ≤ g ∧ e = .returned (.agg #[.slice (some ⟨g, 0, none⟩) M c, .int .i64 n]) ∧ ∀ j u, cs[j]? = some u → w'.cell? ⟨g, j, none⟩ = some u
  bel : Below w.heap.size w w'

set_option maxHeartbeats 8000000 in
set_option maxRecDepth 20000 in
theorem rin_nil (Q : ByteArray) (p2 n : Int) (w : World) :
    Calls Tryz.prog 27 #[.string Q, .int .i64 p2, .agg #[.slice none 0 0, .int .i64 n]] w fun e w' => InR w w' e n 1 [.string Q, .int .i64 p2] := by
  obtain ⟨i0, hi, hz0, hz1, hz2⟩ := inPt'
  obtain ⟨W, HWe⟩ : ∃ W, Hid (((w.alloc (.cells #[.slice none 0 0, .int .i64 n] 32)).alloc (.cells #[.slice none 0 0, .int .i64 0] 32)) = W) := ⟨_, rfl⟩
  have hWs : W.heap.size = w.heap.size + 1 + 1 := by rw [← HWe.out]; simp
  have c0 : W.cell? ⟨w.heap.size, 0, none⟩ = some (.slice none 0 0) := by rw [← HWe.out]; exact alloc_cell (box0 rfl)
  have c1 : W.cell? ⟨w.heap.size, 1, none⟩ = some (.int .i64 n) := by rw [← HWe.out]; exact alloc_cell (box0 rfl)
  have r0 : W.cell? ⟨w.heap.size + 1, 0, none⟩ = some (.slice none 0 0) := by rw [← HWe.out]; exact box1 rfl
  have r1 : W.cell? ⟨w.heap.size + 1, 1, none⟩ = some (.int .i64 0) := by rw [← HWe.out]; exact box1 rfl
  have hBW : Below w.heap.size w W := by rw [← HWe.out]; exact next_trans (alloc_below _ _) (alloc_below _ _)
  have hf : ∀ j, W.frozen? ⟨w.heap.size + 1, j, none⟩ = false := fun j => by
    rw [← HWe.out]
    simp
  have hTw : Two W (w.heap.size + 1) 32 (.slice none 0 0) (.int .i64 0) := by
    rw [← HWe.out]
    show ((w.heap.push _).push _)[w.heap.size + 1]? = _
    have h9 : (w.heap.push (.cells #[.slice none 0 0, .int .i64 n] 32)).size = w.heap.size + 1 := by simp
    rw [← h9, Array.getElem?_push_size]
  go_enter Tryz.func27, Tryz.ntmps27
  go_wp2_with fail
  rw [HWe.out]
  have hown : (W.drew.alloc (.cells #[.string Q, .int .i64 p2] 69)).ownsRow (w.heap.size + 1 + 1) 69 2 (.slice (some ⟨W.heap.size, 0, none⟩) 1 1) 1 [.string Q, .int .i64 p2] :=
    World.ownsRow_lit W.drew #[.string Q, .int .i64 p2] 1 (by show _ ≤ W.heap.size; omega) (by unfold maxLen; omega) rfl
  have hap := run_append_owned_none (P := Tryz.prog) (w := W.drew.alloc (.cells #[.string Q, .int .i64 p2] 69)) (w.heap.size + 1 + 1) 30 30 69 i0 2 Tryz.underlying30 hi _ 1 _ hown
  have a0 : (W.drew.alloc (.cells #[.string Q, .int .i64 p2] 69)).cell? ⟨w.heap.size, 0, none⟩ = some (.slice none 0 0) := alloc_cell c0
  have a1 : (W.drew.alloc (.cells #[.string Q, .int .i64 p2] 69)).cell? ⟨w.heap.size, 1, none⟩ = some (.int .i64 n) := alloc_cell c1
  have b0 : (W.drew.alloc (.cells #[.string Q, .int .i64 p2] 69)).cell? ⟨w.heap.size + 1, 0, none⟩ = some (.slice none 0 0) := alloc_cell r0
  have b1 : (W.drew.alloc (.cells #[.string Q, .int .i64 p2] 69)).cell? ⟨w.heap.size + 1, 1, none⟩ = some (.int .i64 0) := alloc_cell r1
  have f0 : (W.drew.alloc (.cells #[.string Q, .int .i64 p2] 69)).frozen? ⟨w.heap.size + 1, 0, none⟩ = false := alloc_froz (w := W.drew) r0 (hf 0)
  have f1 : (W.drew.alloc (.cells #[.string Q, .int .i64 p2] 69)).frozen? ⟨w.heap.size + 1, 1, none⟩ = false := alloc_froz (w := W.drew) r1 (hf 1)
  have hBX : Below w.heap.size w (W.drew.alloc (.cells #[.string Q, .int .i64 p2] 69)) := next_trans hBW.drew (alloc_below _ _)
  have n0 : (W.drew.alloc (.cells #[.string Q, .int .i64 p2] 69)).cell? ⟨W.heap.size, 0, none⟩ = some (.string Q) := box0 rfl
  have n1 : (W.drew.alloc (.cells #[.string Q, .int .i64 p2] 69)).cell? ⟨W.heap.size, 1, none⟩ = some (.int .i64 p2) := box0 rfl
  go_region
  have hT : Two (((W.setCell ⟨w.heap.size + 1, 0, none⟩ (.slice (some ⟨w.heap.size + 1 + 1, 0, none⟩) 1 1)).setCell ⟨w.heap.size + 1, 1, none⟩ (.int .i64 n)).alloc (.cells #[.string Q, .int .i64 p2] 69)).drew (w.heap.size + 1) 32 (.slice (some ⟨w.heap.size + 1 + 1, 0, none⟩) 1 1) (.int .i64 n) := ((hTw.set0 _).set1 _).alloc _
  have q0 := hT.c0
  have q1 := hT.c1
  have hsz : ((W.setCell ⟨w.heap.size + 1, 0, none⟩ (.slice (some ⟨w.heap.size + 1 + 1, 0, none⟩) 1 1)).setCell ⟨w.heap.size + 1, 1, none⟩ (.int .i64 n)).heap.size = w.heap.size + 1 + 1 := by simp [World.setCell]; omega
  clear a0 a1 b0 b1 f0 f1 n0 n1 hap hown c0 c1 r0 r1
  go_wp2
  refine bodyPost_ret (v := .agg #[.slice (some ⟨w.heap.size + 1 + 1, 0, none⟩) 1 1, .int .i64 n]) (by simp [results, Tryz.results27, go_sem, q0, q1]) rfl ⟨⟨_, _, by omega, rfl, ?_⟩, ?_⟩
  · intro j u hu
    match j, hu with
    | 0, hu => simp at hu; subst hu; exact box_cell hsz.symm rfl
    | 1, hu => simp at hu; subst hu; exact box_cell hsz.symm rfl
  · exact (((hBW.setCell (by show w.heap.size ≤ w.heap.size + 1; omega) _).setCell (by show w.heap.size ≤ w.heap.size + 1; omega) _).alloc (by rw [hsz]; omega) _).drew

set_option maxHeartbeats 8000000 in
set_option maxRecDepth 20000 in
theorem rin_cons (Q : ByteArray) (p2 n : Int) (b o M cap : Nat) (news : List Value) (w : World) (hM : 0 < M) (hM2 : M ≤ 1000) (hnl : news.length = M * 2) (hnw : ∀ j u, news[j]? = some u → w.cell? ⟨b, o + j, none⟩ = some u) (hn1 : ∀ u ∈ news, u.oneCell' = true) :
    Calls Tryz.prog 27 #[.string Q, .int .i64 p2, .agg #[.slice (some ⟨b, o, none⟩) M cap, .int .i64 n]] w fun e w' => InR w w' e n (1 + M) ([.string Q, .int .i64 p2] ++ news) := by
  obtain ⟨i0, hi, hz0, hz1, hz2⟩ := inPt'
  obtain ⟨W, HWe⟩ : ∃ W, Hid (((w.alloc (.cells #[.slice (some ⟨b, o, none⟩) M cap, .int .i64 n] 32)).alloc (.cells #[.slice none 0 0, .int .i64 0] 32)) = W) := ⟨_, rfl⟩
  have hWs : W.heap.size = w.heap.size + 1 + 1 := by rw [← HWe.out]; simp
  have c0 : W.cell? ⟨w.heap.size, 0, none⟩ = some (.slice (some ⟨b, o, none⟩) M cap) := by rw [← HWe.out]; exact alloc_cell (box0 rfl)
  have c1 : W.cell? ⟨w.heap.size, 1, none⟩ = some (.int .i64 n) := by rw [← HWe.out]; exact alloc_cell (box0 rfl)
  have hBW : Below w.heap.size w W := by rw [← HWe.out]; exact next_trans (alloc_below _ _) (alloc_below _ _)
  have hTw : Two W (w.heap.size + 1) 32 (.slice none 0 0) (.int .i64 0) := by
    rw [← HWe.out]
    show ((w.heap.push _).push _)[w.heap.size + 1]? = _
    have h9 : (w.heap.push (.cells #[.slice (some ⟨b, o, none⟩) M cap, .int .i64 n] 32)).size = w.heap.size + 1 := by simp
    rw [← h9, Array.getElem?_push_size]
  go_enter Tryz.func27, Tryz.ntmps27
  go_wp2_with fail
  rw [HWe.out]
  have hown : (W.alloc (.cells #[.string Q, .int .i64 p2] 69)).drew.ownsRow (w.heap.size + 1 + 1) 69 2 (.slice (some ⟨w.heap.size + 1 + 1, 0, none⟩) 1 1) 1 [.string Q, .int .i64 p2] := by
    rw [← hWs]
    exact (World.ownsRow_lit W #[.string Q, .int .i64 p2] 1 (Nat.le_refl _) (by unfold maxLen; omega) rfl).drew
  have hnw2 : ∀ j u, news[j]? = some u → (W.alloc (.cells #[.string Q, .int .i64 p2] 69)).drew.cell? ((⟨b, o, none⟩ : Addr).add j) = some u := fun j u hu => by
    have hadd : (⟨b, o, none⟩ : Addr).add j = ⟨b, o + j, none⟩ := Go.WideShapes.add_plain _ _ _
    rw [hadd]
    exact alloc_cell (keep_cell hBW (hnw j u hu))
  have a0 : (W.alloc (.cells #[.string Q, .int .i64 p2] 69)).cell? ⟨w.heap.size, 0, none⟩ = some (.slice (some ⟨b, o, none⟩) M cap) := alloc_cell c0
  have a1 : (W.alloc (.cells #[.string Q, .int .i64 p2] 69)).cell? ⟨w.heap.size, 1, none⟩ = some (.int .i64 n) := alloc_cell c1
  have HGr : Hid (∀ w3, (W.alloc (.cells #[.string Q, .int .i64 p2] 69)).drew.grownBy w3 (some (w.heap.size + 1 + 1)) → (w3.cell? ⟨w.heap.size, 1, none⟩ = some (.int .i64 n) ∧ Two w3 (w.heap.size + 1) 32 (.slice none 0 0) (.int .i64 0)) ∧ Below w.heap.size w w3) := by
    intro w3 hg
    have hb : ∀ k, k < w.heap.size + 1 + 1 → w3.heap[k]? = W.heap[k]? := fun k hk => by
      rw [hg.block k (by show k < (W.heap.push _).size; simp; omega) (fun e => by have := Option.some.inj e; omega)]
      exact Below.heap_alloc _ _ _ (by omega)
    refine ⟨⟨?_, ?_⟩, ?_⟩
    · rw [World.cell?_of_block (a := ⟨w.heap.size, 1, none⟩) (hb w.heap.size (by omega))]; exact c1
    · unfold Two; rw [hb _ (by omega)]; exact hTw
    · exact ((hBW.alloc (by omega) _).drew).grown hg (by show _ ≤ (W.heap.push _).size; simp; omega) (fun k hk => by have := Option.some.inj hk; omega)
  go_region_law (first | ((refine step_append_lies _ (by rfl) _ _ _ (by rfl) (w.heap.size + 1 + 1) 69 i0 (.agg #[.string ⟨#[]⟩, .int .i64 0]) 2 24 Tryz.underlying30 hi hz0 hz1 hz2 rfl (by decide) (.slice (some ⟨w.heap.size + 1 + 1, 0, none⟩) 1 1) 1 [.string Q, .int .i64 p2] (by rfl) hown ⟨b, o, none⟩ M cap news (by rfl) hnl hnw2 hn1 hM (by unfold maxLen; omega) (by omega) (by simp; omega) (w.heap.size + 1 + 1 + 1) (by simp; omega) ?_; intro g gcap w3 hown3 hgrow hat3 hlt3; have hG := HGr.out w3 hgrow; have y1 := hG.1.1; have z0 := hG.1.2.f 0; have z1 := hG.1.2.f 1; have zc0 := hG.1.2.c0; have zc1 := hG.1.2.c1)))
  all_goals
    have hT : Two ((w3.setCell ⟨w.heap.size + 1, 0, none⟩ (.slice (some ⟨g, 0, none⟩) (1 + M) gcap)).setCell ⟨w.heap.size + 1, 1, none⟩ (.int .i64 n)) (w.heap.size + 1) 32 (.slice (some ⟨g, 0, none⟩) (1 + M) gcap) (.int .i64 n) := (hG.1.2.set0 _).set1 _
    have q0 := hT.c0
    have q1 := hT.c1
    have hgB : w.heap.size + 1 + 1 ≤ g := (hown3.lt g rfl).1
    clear a0 a1 hown c0 c1 y1 z0 z1 zc0 zc1
    go_wp2
    refine bodyPost_ret (v := .agg #[.slice (some ⟨g, 0, none⟩) (1 + M) gcap, .int .i64 n]) (by simp [results, Tryz.results27, go_sem, q0, q1]) rfl ⟨⟨_, _, by omega, rfl, ?_⟩, ?_⟩
    · intro j u hu
      have hj : j < (1 + M) * 2 := by
        have h9 := (List.getElem?_eq_some_iff.1 hu).1
        rw [List.length_cons, List.length_cons, hnl] at h9
        omega
      have hc := hown3.cellAt j hj
      rw [World.cell?_of_block (a := ⟨g, j, none⟩) (w := w3) (by rw [Below.heap_setCell _ _ _ _ (by show g ≠ w.heap.size + 1; omega), Below.heap_setCell _ _ _ _ (by show g ≠ w.heap.size + 1; omega)]), hc]
      exact hu
    · exact (hG.2.setCell (by show w.heap.size ≤ w.heap.size + 1; omega) _).setCell (by show w.heap.size ≤ w.heap.size + 1; omega) _
/-- Parts, as cells. -/
def ptsC (ps : List Pt) : List Value := ps.flatMap fun p => [.string (baL p.1), .int .i64 p.2]
theorem ptsC_cons (p : Pt) (ps : List Pt) : ptsC (p :: ps) = [.string (baL p.1), .int .i64 p.2] ++ ptsC ps := by unfold ptsC; rw [List.flatMap_cons]
theorem ptsC_len : ∀ ps : List Pt, (ptsC ps).length = ps.length * 2
  | [] => rfl
  | p :: r => by rw [ptsC_cons, List.length_append, ptsC_len r, List.length_cons]; simp only [List.length_cons, List.length_nil]; omega
theorem ptsC_one : ∀ (ps : List Pt) (u : Value), u ∈ ptsC ps → u.oneCell' = true
  | [], u, h => by cases h
  | p :: r, u, h => by
    rw [ptsC_cons] at h
    rcases List.mem_append.1 h with h | h
    · rcases List.mem_cons.1 h with rfl | h
      · rfl
      · rw [List.mem_singleton.1 h]; rfl
    · exact ptsC_one r u h
/-- Parts that lie from an address on. -/
def PtsC (w : World) (ao : Option Addr) (ps : List Pt) : Prop := ps = [] ∧ ao = none ∨ ps ≠ [] ∧ ∃ b o, ao = some ⟨b, o, none⟩ ∧ ∀ j u, (ptsC ps)[j]? = some u → w.cell? ⟨b, o + j, none⟩ = some u
theorem PtsC.next {w w' : World} {ao : Option Addr} {ps : List Pt} (h : PtsC w ao ps) (hb : Below w.heap.size w w') : PtsC w' ao ps := by
  rcases h with h | ⟨h0, b, o, h1, h2⟩
  · exact .inl h
  · exact .inr ⟨h0, b, o, h1, fun j u hu => keep_cell hb (h2 j u hu)⟩
theorem ptsC_at : ∀ (ps : List Pt) (j : Nat) (p : Pt), ps[j]? = some p → (ptsC ps)[j * 2]? = some (.string (baL p.1)) ∧ (ptsC ps)[j * 2 + 1]? = some (.int .i64 p.2)
  | [], j, p, h => by simp at h
  | q :: r, 0, p, h => by
    simp at h; subst h
    rw [ptsC_cons]; exact ⟨rfl, rfl⟩
  | q :: r, j + 1, p, h => by
    rw [List.getElem?_cons_succ] at h
    have := ptsC_at r j p h
    rw [ptsC_cons, show (j + 1) * 2 = j * 2 + 1 + 1 by omega]
    exact ⟨this.1, this.2⟩
theorem PtsC.pts {w : World} {ao : Option Addr} {ps : List Pt} (h : PtsC w ao ps) : PtsAt w ao ps := by
  rcases h with ⟨rfl, _⟩ | ⟨_, b, o, h1, h2⟩
  · exact PtsAt.nil w ao
  · intro j p hj
    have := ptsC_at ps j p hj
    exact ⟨b, o, h1, h2 _ _ this.1, by rw [show o + j * 2 + 1 = o + (j * 2 + 1) by omega]; exact h2 _ _ this.2⟩
/-- In, whatever parts there were. -/
theorem rin_any (p : Pt) (n : Int) (ps : List Pt) (ao : Option Addr) (cap : Nat) (w : World) (hP : PtsC w ao ps) (hl : ps.length ≤ 1000) (hc : ps = [] → cap = 0) :
    Calls Tryz.prog 27 #[.string (baL p.1), .int .i64 p.2, .agg #[.slice ao ps.length cap, .int .i64 n]] w fun e w' => (∃ g cap', w.heap.size ≤ g ∧ e = .returned (.agg #[.slice (some ⟨g, 0, none⟩) (p :: ps).length cap', .int .i64 n]) ∧ PtsC w' (some ⟨g, 0, none⟩) (p :: ps)) ∧ Below w.heap.size w w' := by
  rcases hP with ⟨rfl, rfl⟩ | ⟨h0, b, o, rfl, h2⟩
  · obtain rfl : cap = 0 := hc rfl
    refine (rin_nil (baL p.1) p.2 n w).mono ?_
    rintro e w' ⟨⟨g, c, hge, rfl, hcs⟩, hb⟩
    exact ⟨⟨g, c, hge, rfl, .inr ⟨by simp, g, 0, rfl, fun j u hu => by rw [Nat.zero_add]; exact hcs j u hu⟩⟩, hb⟩
  · have hpos : 0 < ps.length := List.length_pos_iff.2 h0
    refine (rin_cons (baL p.1) p.2 n b o ps.length cap (ptsC ps) w hpos hl (ptsC_len ps) h2 (ptsC_one ps)).mono ?_
    rintro e w' ⟨⟨g, c, hge, he, hcs⟩, hb⟩
    rw [Nat.add_comm] at he
    exact ⟨⟨g, c, hge, he, .inr ⟨by simp, g, 0, rfl, fun j u hu => by rw [Nat.zero_add]; exact hcs j u (by rw [ptsC_cons] at hu; exact hu)⟩⟩, hb⟩
end Go.Proofs.YthpmnomplhhfgaaGreatDoor
