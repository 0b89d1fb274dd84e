/- The law's Of: facts as the document's. -/
import Derived.Test.YtgjnnahflaaagaaDoorWmOf
import Derived.Test.YtgjnnahflaaagaaDoorWmAdd2
namespace Go.Proofs.YtgjnnahflaaagaaDoor
open Go.RowKit Go.Maps

theorem infoRf : (Tryd.prog.info? 34).map (fun i => (i.zero, i.size, i.bytes)) = some (some (.agg #[.int .i64 0, .string ⟨#[]⟩, .slice none 0 0]), 3, 48) := by kernel_rfl
theorem infoRf' : ∃ i, Tryd.prog.info? 34 = some i ∧ i.zero = some (.agg #[.int .i64 0, .string ⟨#[]⟩, .slice none 0 0]) ∧ i.size = 3 ∧ i.bytes = 48 := by
  obtain ⟨i, h, e⟩ := Option.map_eq_some_iff.1 infoRf
  simp only [Prod.mk.injEq] at e
  exact ⟨i, h, e.1, e.2.1, e.2.2⟩
theorem undrew_grown {w w' : World} {row : Option Nat} (h : w.drew.grownBy w' row) : w.grownBy w' row := ⟨h.os, h.tape, h.output, h.size, h.block⟩

set_option maxHeartbeats 8000000 in
set_option maxRecDepth 8000 in
theorem lof_any (w : World) (B N cap : Nat) (ao : Option Addr) (G : List Ft) (R : Rw 44 w B (.slice ao N cap) G) (hB : B ≤ w.heap.size) (hn : N ≤ 5000) :
    Calls Tryd.prog 18 #[.slice ao N cap] w fun e w' => ∃ ao' cap', e = .returned (.slice ao' N cap') ∧ Rw 34 w' B (.slice ao' N cap') G ∧ Below w.heap.size w w' := by
  have hN := R.len
  have HN : Hid (G.length = N) := hN.symm
  have HR : Hid (∀ w', Below w.heap.size w w' → Rw 44 w' B (.slice ao N cap) G) := fun w' hb => R.next hb
  have HB : Hid (B ≤ w.heap.size) := hB
  obtain ⟨i0, hi, hz0, hz1, hz2⟩ := infoRf'
  clear R hN hB
  go_enter Tryd.func18, Tryd.ntmps18
  go_wp2
  go_loopw [3, 4] (fun l i wr => ∃ (k : Nat) (lo : Option Addr) (lc : Nat), k ≤ N ∧ i = .int .i64 k ∧ l = .slice lo k lc ∧ Hid (Below w.heap.size w wr) ∧ Hid (wr.ownsRow w.heap.size 34 3 (.slice lo k lc) k (ftsC (G.take k)))) (fun _ i _ => N - (intOf i).toNat)
  case atStart => exact ⟨0, none, 0, Nat.zero_le _, rfl, rfl, Below.refl _ _, World.ownsRow_nil _ _ _ _⟩
  case round =>
    obtain ⟨k, lo, lc, hk, rfl, rfl, HW, HO⟩ := hrel
    by_cases hlt : k < N
    · have hki : (k : Int) < (N : Int) := by omega
      have hk0 : (0 : Int) ≤ (k : Int) := by omega
      obtain ⟨f, HF⟩ : ∃ f, Hid (G[k]? = some f) := ⟨_, List.getElem?_eq_getElem (by rw [HN.out]; exact hlt)⟩
      obtain ⟨q, rfl, c0, c1, c2⟩ := (HR.out wr HW.out).at HF.out
      have htk : Hid (ftsC (G.take (k + 1)) = ftsC (G.take k) ++ ftC f) := by
        obtain ⟨h1, h2⟩ := List.getElem?_eq_some_iff.1 HF.out
        rw [Hid, List.take_succ_eq_append_getElem h1, h2, ftsC_snoc]
      unfold ftC at htk
      obtain ⟨fid, ft, fn, fa, fc, hfe⟩ : ∃ (fid : Int) (ft : ByteArray) (fn : Nat) (fa : Option Addr) (fc : Nat), Hid ((f.id : Int) = fid ∧ f.t = ft ∧ f.l.length = fn ∧ f.a = fa ∧ f.c = fc) := ⟨_, _, _, _, _, rfl, rfl, rfl, rfl, rfl⟩
      rw [hfe.out.1] at c0 htk
      rw [hfe.out.2.1] at c1 htk
      rw [hfe.out.2.2.1, hfe.out.2.2.2.1, hfe.out.2.2.2.2] at c2 htk
      have hsz : w.heap.size ≤ wr.heap.size := HW.out.size
      have hok : Hid (∀ j, Value.ownBlock (.slice lo k lc) = some j → w.heap.size ≤ j ∧ j < wr.heap.size) := HO.out.lt
      have hq := World.block_lt_of_cell? wr _ c0
      have hqn : some q ≠ Value.ownBlock (.slice lo k lc) := by
        intro e
        have h1 := Kd.own HO.out e.symm
        obtain ⟨g', e', _⟩ := (HR.out wr HW.out).at HF.out
        have h2 : Kd wr q 44 := Kd.own (HR.out wr HW.out).row rfl
        exact absurd (h1.uniq h2) (by decide)
      have HQ : Hid (some q ≠ Value.ownBlock (.slice lo k lc)) := hqn
      clear hqn
      have HP : Hid (∀ v' w3, w3.ownsRow w.heap.size 34 3 v' (k + 1) (ftsC (G.take k) ++ [.int .i64 fid, .string ft, .slice fa fn fc]) → (wr.alloc (.cells #[.int .i64 fid, .string ft, .slice fa fn fc] 34)).grownBy w3 (Value.ownBlock (.slice lo k lc)) → Below w.heap.size w w3 ∧ w3.ownsRow w.heap.size 34 3 v' (k + 1) (ftsC (G.take (k + 1))) ∧
          w3.cell? ⟨q, k * 3, none⟩ = some (.int .i64 fid) ∧ w3.cell? ⟨q, k * 3 + 1, none⟩ = some (.string ft) ∧ w3.cell? ⟨q, k * 3 + 2, none⟩ = some (.slice fa fn fc)) := by
        intro v' w3 ho hg
        have hc : ∀ p, p.block = q → ∀ u, wr.cell? p = some u → w3.cell? p = some u := fun p hp u hu =>
          hg.cell (alloc_cell hu) (by rw [hp]; exact HQ.out)
        exact ⟨push_below HW.out hsz HO.out hg, by rw [htk.out]; exact ho, hc _ rfl _ c0, hc _ rfl _ c1, hc _ rfl _ c2⟩
      go_wp2
      go_region_held3 (fun w' => w'.cell? ⟨q, k * 3, none⟩ = some (.int .i64 fid) ∧ w'.cell? ⟨q, k * 3 + 1, none⟩ = some (.string ft) ∧ w'.cell? ⟨q, k * 3 + 2, none⟩ = some (.slice fa fn fc))
        (((try dsimp only); go_split_ands; refine ⟨?_, ?_, ?_⟩ <;> first | assumption | exact alloc_cell (by assumption)))
        (first
          | (refine step_append_lies _ (by rfl) _ _ _ (by rfl) w.heap.size 34 i0 (.agg #[.int .i64 0, .string ⟨#[]⟩, .slice none 0 0]) 3 48 Tryd.underlying26 hi hz0 hz1 hz2 rfl (by decide) (.slice lo k lc) k (ftsC (G.take k)) (by rfl) (HO.out.drew.alloc _) ⟨wr.heap.size, 0, none⟩ 1 1 [.int .i64 fid, .string ft, .slice fa fn fc] (by rfl) rfl (ft_news wr.drew _ rfl _ _ _ _) (ftC_one3 _ _ _ _ _) (by decide) (by unfold maxLen; omega) (by omega) (by simp; omega) (wr.heap.size + 1) (by simp) ?_; intro g gcap w3 hown3 hgrow hat hlt3; obtain ⟨r1, r2, r3, r4, r5⟩ := HP.out _ w3 hown3 (undrew_grown hgrow)))
      have HW3 : Hid (Below w.heap.size w w3) := r1
      have HO3 : Hid (w3.ownsRow w.heap.size 34 3 (.slice (some ⟨g, 0, none⟩) (k + 1) gcap) (k + 1) (ftsC (G.take (k + 1)))) := r2
      clear hown3 hgrow hat hlt3 r1 r2 r3 r4 r5 HP
      go_wp2
      go_roundw
      case rel => exact ⟨k + 1, _, gcap, by omega, by go_num, rfl, HW3, HO3⟩
      case measure => simp [intOf]; omega
    · have hki : ¬ (k : Int) < (N : Int) := by omega
      obtain rfl : k = N := by omega
      have HRw : Hid (Rw 34 wr B (.slice lo k lc) G) := by
        have h1 := HO.out
        rw [List.take_of_length_le (by rw [HN.out]; exact Nat.le_refl _)] at h1
        refine ⟨?_, (HR.out wr HW.out).vals⟩
        rw [HN.out]
        exact own_base h1 HB.out
      go_wp2
      go_ret
      exact ⟨lo, lc, rfl, HRw.out, HW.out⟩
end Go.Proofs.YtgjnnahflaaagaaDoor
