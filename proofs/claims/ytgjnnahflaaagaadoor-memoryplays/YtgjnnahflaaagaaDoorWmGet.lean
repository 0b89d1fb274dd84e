/- The contract of Get. -/
import Derived.Test.YtgjnnahflaaagaaDoorWmAssert
namespace Go.Proofs.YtgjnnahflaaagaaDoor
open Go.RowKit Go.Maps

set_option maxHeartbeats 2000000 in
theorem get_no (w : World) (B b last : Nat) (v m : Value) (F : List Ft) (M : Mem w B b v m last F) (hn : F.length ≤ 5000) (x : Int) (hx : ∀ f ∈ F, (f.id : Int) ≠ x) :
    Calls Tryd.prog 21 #[.pointer (some ⟨b, 0, none⟩), .int .i64 x] w fun e w' => e = .returned (.tuple #[.agg #[.int .i64 0, .string ⟨#[]⟩, .slice none 0 0], .bool false]) ∧ Below w.heap.size w w' := by
  obtain ⟨W1, hW1⟩ : ∃ W1, Hid (w.alloc (.cells #[.int .i64 0, .string ⟨#[]⟩, .slice none 0 0] 44) = W1) := ⟨_, rfl⟩
  have hb1 : Below w.heap.size w W1 := by rw [← hW1.out]; exact alloc_below _ _
  have x1 : Bk W1 w.heap.size 44 #[.int .i64 0, .string ⟨#[]⟩, .slice none 0 0] := Bk.made' hW1.out rfl
  have hp := place_any W1 B b last v m F (M.next hb1) hn x
  obtain ⟨r, hr⟩ : ∃ r, w.heap.size = r := ⟨_, rfl⟩
  clear M
  go_enter Tryd.func21, Tryd.ntmps21
  go_wp2_with fail
  rw [hW1.out]
  refine hp.mono ?_
  rintro e w1 ⟨i, rfl, hl, hb⟩
  rw [hit_no hx i]
  have y1 := x1.next hb
  have hbb : Below w.heap.size w w1 := next_trans hb1 hb
  rw [hr] at y1 hbb
  clear hl hp hx hb hb1 x1 hW1
  have d0 : w1.cell? ⟨r, 0, none⟩ = some (.int .i64 0) := y1.cell 0
  have d1 : w1.cell? ⟨r, 1, none⟩ = some (.string ⟨#[]⟩) := y1.cell 1
  have d2 : w1.cell? ⟨r, 2, none⟩ = some (.slice none 0 0) := y1.cell 2
  have g0 := y1.froz
  go_wp2
  refine bodyPost_ret (v := .tuple #[.agg #[.int .i64 0, .string ⟨#[]⟩, .slice none 0 0], .bool false]) (by simp [results, Tryd.results21, go_sem, d0, d1, d2]) rfl ⟨rfl, ?_⟩
  rw [hr]
  exact ((hbb.setCell (p := ⟨r, 0, none⟩) (Nat.le_refl _) _).setCell (p := ⟨r, 1, none⟩) (Nat.le_refl _) _).setCell (p := ⟨r, 2, none⟩) (Nat.le_refl _) _

set_option maxHeartbeats 4000000 in
theorem get_yes (w : World) (B b last p : Nat) (v m : Value) (F : List Ft) (f : Ft) (M : Mem w B b v m last F) (hf : F[p]? = some f) (hn : F.length ≤ 5000) (x : Int) (hx : (f.id : Int) = x) :
    Calls Tryd.prog 21 #[.pointer (some ⟨b, 0, none⟩), .int .i64 x] w fun e w' => ∃ a' c', e = .returned (.tuple #[.agg #[.int .i64 x, .string f.t, .slice a' f.l.length c'], .bool true]) ∧ ValsAt w' w.heap.size a' c' f.l ∧ Below w.heap.size w w' := by
  subst hx
  have hpl := (List.getElem?_eq_some_iff.1 hf).1
  obtain ⟨W1, hW1⟩ : ∃ W1, Hid (w.alloc (.cells #[.int .i64 0, .string ⟨#[]⟩, .slice none 0 0] 44) = W1) := ⟨_, rfl⟩
  have hb1 : Below w.heap.size w W1 := by rw [← hW1.out]; exact alloc_below _ _
  have x1 : Bk W1 w.heap.size 44 #[.int .i64 0, .string ⟨#[]⟩, .slice none 0 0] := Bk.made' hW1.out rfl
  have hp := place_any W1 B b last v m F (M.next hb1) hn (f.id : Int)
  obtain ⟨r, hr⟩ : ∃ r, w.heap.size = r := ⟨_, rfl⟩
  obtain ⟨fo, cap, rfl, _, hne⟩ := M.rw.slice
  obtain ⟨g, rfl⟩ := hne (fun e => by subst e; simp at hf)
  have hok := M.good.ok f (List.mem_of_getElem? hf)
  have HL : Hid (∀ i, LowAt F (f.id : Int) i → i = p ∧ hitB F (f.id : Int) i = true) := by
    intro i hi
    obtain rfl := hit_yes M.good hf hi
    exact ⟨rfl, by rw [hit_at hf]; simp⟩
  have HC : Hid (∀ w', Below w.heap.size w w' → w'.cell? ⟨b, 0, none⟩ = some (.slice (some ⟨g, 0, none⟩) F.length cap) ∧ w'.cell? ⟨g, p * 3, none⟩ = some (.int .i64 f.id) ∧ w'.cell? ⟨g, p * 3 + 1, none⟩ = some (.string f.t) ∧ w'.cell? ⟨g, p * 3 + 2, none⟩ = some (.slice f.a f.l.length f.c) ∧
      Hid (Calls Tryd.prog 31 #[.agg #[.int .i64 f.id, .string f.t, .slice f.a f.l.length f.c]] w' fun e w2 => ∃ a' c', e = .returned (.agg #[.int .i64 f.id, .string f.t, .slice a' f.l.length c']) ∧ ValsAt w2 w'.heap.size a' c' f.l ∧ Below w'.heap.size w' w2)) := by
    intro w' hb
    have M' := M.next hb
    obtain ⟨g', e, h0, h1, h2⟩ := M'.rw.at hf
    obtain rfl : g = g' := by injection e with e; injection e
    have hv := M'.rw.vals f (List.mem_of_getElem? hf)
    exact ⟨M'.box.cell 0, h0, h1, h2, copy_any _ _ _ _ _ f.l w' rfl hv.vals (fun e => by obtain ⟨e1, e2⟩ := hv.nil e; exact ⟨by rw [e1]; rfl, e2⟩) (by have := hok.2.1; omega)⟩
  obtain ⟨FN, hFN⟩ : ∃ FN, F.length = FN := ⟨_, rfl⟩
  rw [hFN] at HC hpl
  obtain ⟨fid, hfid⟩ : ∃ i : Int, (f.id : Int) = i := ⟨_, rfl⟩
  rw [hfid] at HC HL hp ⊢
  obtain ⟨ft, fl, fn, fa, fc, hfe⟩ : ∃ ft fl fn fa fc, Hid (f.t = ft ∧ f.l = fl ∧ fl.length = fn ∧ f.a = fa ∧ f.c = fc) := ⟨_, _, _, _, _, rfl, rfl, rfl, rfl, rfl⟩
  rw [hfe.out.1, hfe.out.2.1, hfe.out.2.2.1, hfe.out.2.2.2.1, hfe.out.2.2.2.2] at HC
  rw [hfe.out.1, hfe.out.2.1, hfe.out.2.2.1]
  have p1 : (p : Int) < (FN : Int) := by omega
  have p0 : (0 : Int) ≤ (p : Int) := by omega
  clear M hok hfid hf hfe hFN hne hn
  go_enter Tryd.func21, Tryd.ntmps21
  go_wp2_with fail
  rw [hW1.out]
  refine hp.mono ?_
  rintro e w1 ⟨i, rfl, hl, hb⟩
  obtain ⟨rfl, hh⟩ := HL.out i hl
  rw [hh]
  have y1 := x1.next hb
  have hbb : Below w.heap.size w w1 := next_trans hb1 hb
  obtain ⟨c0, e0, e1, e2, HCp⟩ := HC.out w1 hbb
  clear hl hp hb hb1 x1 hW1 HC HL hh
  go_wp2_with fail
  refine HCp.out.mono ?_
  rintro e w2 ⟨a', c', rfl, hva, hb2⟩
  have y2 := y1.next hb2
  have hb3 : Below w.heap.size w w2 := next_trans hbb hb2
  have hv2 : ValsAt w2 w.heap.size a' c' fl := hva.base hbb.size
  rw [hr] at y2 hb3 hv2
  clear y1 hbb hva hb2 HCp c0 e0 e1 e2
  have d0 : w2.cell? ⟨r, 0, none⟩ = some (.int .i64 0) := y2.cell 0
  have d1 : w2.cell? ⟨r, 1, none⟩ = some (.string ⟨#[]⟩) := y2.cell 1
  have d2 : w2.cell? ⟨r, 2, none⟩ = some (.slice none 0 0) := y2.cell 2
  have g0 := y2.froz
  go_wp2
  refine bodyPost_ret (v := .tuple #[.agg #[.int .i64 fid, .string ft, .slice a' fn c'], .bool true]) (by simp [results, Tryd.results21, go_sem, d0, d1, d2]) rfl ⟨a', c', rfl, ?_, ?_⟩
  · rw [hr]
    have k2 := y2.kd
    exact ((hv2.set k2 (by decide) 0 _).set (k2.set _ _) (by decide) 1 _).set ((k2.set _ _).set _ _) (by decide) 2 _
  · rw [hr]
    exact ((hb3.setCell (p := ⟨r, 0, none⟩) (Nat.le_refl _) _).setCell (p := ⟨r, 1, none⟩) (Nat.le_refl _) _).setCell (p := ⟨r, 2, none⟩) (Nat.le_refl _) _
end Go.Proofs.YtgjnnahflaaagaaDoor
