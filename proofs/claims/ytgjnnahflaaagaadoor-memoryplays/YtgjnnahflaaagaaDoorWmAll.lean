/- The contract of All: copies of all facts. -/
import Derived.Test.YtgjnnahflaaagaaDoorWmGet
import Derived.Laws.MakeOwn
namespace Go.Proofs.YtgjnnahflaaagaaDoor
open Go.RowKit Go.Maps

def zC (n : Nat) : List Value := (List.replicate n zFt).flatten
theorem zC_succ (n : Nat) : zC (n + 1) = zFt ++ zC n := by unfold zC; rw [List.replicate_succ, List.flatten_cons]
theorem zC_len (n : Nat) : (zC n).length = n * 3 := by
  induction n with
  | zero => rfl
  | succ n ih => rw [zC_succ, List.length_append, ih]; show 3 + _ = _; omega
theorem zC_at : ∀ (n j q : Nat), j < n → q < 3 → (zC n)[j * 3 + q]? = zFt[q]?
  | 0, j, q, h, _ => by omega
  | n + 1, 0, q, h, hq => by
    have hl : zFt.length = 3 := rfl
    rw [Nat.zero_mul, Nat.zero_add, zC_succ, List.getElem?_append_left (by omega)]
  | n + 1, j + 1, q, h, hq => by
    have hl : zFt.length = 3 := rfl
    rw [zC_succ, List.getElem?_append_right (by omega), hl, show (j + 1) * 3 + q - 3 = j * 3 + q by omega]
    exact zC_at n j q (by omega) hq
theorem made_zC (n : Nat) : madeCells (Value.agg #[.int .i64 0, .string ⟨#[]⟩, .slice none 0 0]).cells (n * 3) = (zC n).toArray := by
  apply Array.ext_getElem?
  intro i
  rw [show (zC n).toArray[i]? = (zC n)[i]? by simp]
  by_cases h : i < n * 3
  · obtain ⟨j, q, hq, rfl⟩ : ∃ j q, q < 3 ∧ i = j * 3 + q := ⟨i / 3, i % 3, by omega, by omega⟩
    rw [zC_at n j q (by omega) hq]
    have hs : (Value.agg #[.int .i64 0, .string ⟨#[]⟩, .slice none 0 0]).cells.size = 3 := rfl
    unfold madeCells
    rw [Array.getElem?_map, Array.getElem?_range, if_pos h, Option.map_some, hs, show (j * 3 + q) % 3 = q by omega]
    match q, hq with
    | 0, _ => rfl
    | 1, _ => rfl
    | 2, _ => rfl
  · rw [Array.getElem?_eq_none (by rw [size_madeCells]; omega), List.getElem?_eq_none (by rw [zC_len]; omega)]
theorem fill_one (L : List Value) (k : Nat) (R : List Value) (x y z : Value) (hL : L.length = k * 3) :
    (((L ++ (zFt ++ R)).toArray.setIfInBounds (k * 3) x).setIfInBounds (k * 3 + 1) y).setIfInBounds (k * 3 + 2) z = (L ++ ([x, y, z] ++ R)).toArray := by
  apply Array.ext'
  simp only [Array.toList_setIfInBounds]
  rw [List.set_append_right _ _ (by omega), hL, Nat.sub_self]
  rw [List.set_append_right _ _ (by omega), hL, show k * 3 + 1 - k * 3 = 1 by omega]
  rw [List.set_append_right _ _ (by omega), hL, show k * 3 + 2 - k * 3 = 2 by omega]
  rfl
/-- The row behind k copies. -/
structure AllW (w wr : World) (g N : Nat) (F G : List Ft) (k : Nat) : Prop where
  bel : Below w.heap.size w wr
  len : G.length = k
  like : G.map Ft.fc = (F.take k).map Ft.fc
  vals : ∀ f ∈ G, ValsAt wr w.heap.size f.a f.c f.l
  box : Bk wr g 44 (ftsC G ++ zC (N - k)).toArray
theorem AllW.put {w wr w1 : World} {g N k c : Nat} {F G : List Ft} {f : Ft} {a : Option Addr} (h : AllW w wr g N F G k) (hg : w.heap.size ≤ g) (hk : k < N) (hf : F[k]? = some f) (hb : Below wr.heap.size wr w1) (hv : ValsAt w1 w.heap.size a c f.l) :
    AllW w (((w1.setCell ⟨g, k * 3, none⟩ (.int .i64 f.id)).setCell ⟨g, k * 3 + 1, none⟩ (.string f.t)).setCell ⟨g, k * 3 + 2, none⟩ (.slice a f.l.length c)) g N F (G ++ [⟨f.id, f.t, f.l, a, c⟩]) (k + 1) := by
  have hlt := (List.getElem?_eq_some_iff.1 hf).1
  have hel : F[k] = f := (List.getElem?_eq_some_iff.1 hf).2
  have x1 := h.box.next hb
  have k1 := x1.kd
  refine ⟨?_, by simp [h.len], ?_, ?_, ?_⟩
  · exact (((next_trans h.bel hb).setCell (p := ⟨g, _, none⟩) hg _).setCell (p := ⟨g, _, none⟩) hg _).setCell (p := ⟨g, _, none⟩) hg _
  · rw [List.take_succ_eq_append_getElem hlt, List.map_append, List.map_append, h.like, hel]
    rfl
  · intro f' hf'
    have hv' : ValsAt w1 w.heap.size f'.a f'.c f'.l := by
      rcases List.mem_append.1 hf' with hf' | hf'
      · exact (h.vals f' hf').next hb
      · simp at hf'; subst hf'; exact hv
    exact ((hv'.set k1 (by decide) _ _).set (k1.set _ _) (by decide) _ _).set ((k1.set _ _).set _ _) (by decide) _ _
  · have x2 := ((x1.set (k * 3) (.int .i64 f.id)).set (k * 3 + 1) (.string f.t)).set (k * 3 + 2) (.slice a f.l.length c)
    rw [show N - k = (N - (k + 1)) + 1 by omega, zC_succ, fill_one _ k _ _ _ _ (by rw [ftsC_len, h.len])] at x2
    rw [← ftsC_snoc, List.append_assoc]
    exact x2
theorem AllW.done {w wr : World} {g N : Nat} {F G : List Ft} (h : AllW w wr g N F G N) (hg : w.heap.size ≤ g) (hN : F.length = N) (hm : N ≤ 5000) : Rw 44 wr w.heap.size (.slice (some ⟨g, 0, none⟩) N N) G ∧ G.map Ft.fc = F.map Ft.fc := by
  have x := h.box
  rw [Nat.sub_self, show zC 0 = [] from rfl, List.append_nil] at x
  refine ⟨⟨?_, h.vals⟩, ?_⟩
  · rw [h.len]
    refine ⟨by rw [ftsC_len, h.len], .inr ⟨g, N, _, rfl, hg, x, Nat.le_refl _, by unfold maxLen; omega, by simp [ftsC_len, h.len], ?_⟩⟩
    exact List.take_of_length_le (by rw [ftsC_len, h.len]; exact Nat.le_refl _)
  · rw [h.like, List.take_of_length_le (by omega)]

set_option maxHeartbeats 4000000 in
set_option maxRecDepth 4000 in
theorem all_any (w : World) (B b last : Nat) (v m : Value) (F : List Ft) (M : Mem w B b v m last F) (hn : F.length ≤ 5000) :
    Calls Tryd.prog 15 #[.pointer (some ⟨b, 0, none⟩)] w fun e w' => ∃ v' G, e = .returned v' ∧ Rw 44 w' w.heap.size v' G ∧ G.map Ft.fc = F.map Ft.fc ∧ Below w.heap.size w w' := by
  obtain ⟨fo, cap, rfl, _, _⟩ := M.rw.slice
  obtain ⟨N, hN⟩ : ∃ N, F.length = N := ⟨_, rfl⟩
  have HN : Hid (F.length = N) := hN
  rw [hN] at M hn
  have HM : Hid (∀ w', Below w.heap.size w w' → Mem w' B b (.slice fo N cap) m last F) := fun w' hb => M.next hb
  obtain ⟨i0, hi, hz0, hz1, hz2⟩ := infoFt'
  have hmk : ∀ w : World, (Instr.makeSlice 42 (.int .i64 (N : Int)) (.int .i64 (N : Int))).run Tryd.prog w = .ok (.slice (some ⟨w.heap.size, 0, none⟩) N N) (w.alloc (.cells (zC N).toArray 44)) := by
    intro w
    have h := run_make (P := Tryd.prog) w 42 44 i0 (.agg #[.int .i64 0, .string ⟨#[]⟩, .slice none 0 0]) Tryd.underlying42 hi hz0 .i64 .i64 N N (by omega) (Int.le_refl _) (by rw [hz2]; omega) (by omega)
    simp only [Int.toNat_natCast] at h
    rw [hz1, made_zC] at h
    exact h
  have c0 : w.cell? ⟨b, 0, none⟩ = some (.slice fo N cap) := M.box.cell 0
  have hbl := M.box.lt
  clear M hN
  go_enter Tryd.func15, Tryd.ntmps15
  go_wp2
  clear hmk
  obtain ⟨g, hg⟩ : ∃ g, w.heap.size = g := ⟨_, rfl⟩
  have H0 : Hid (AllW w (w.alloc (.cells (zC N).toArray 44)) g N F [] 0) :=
    ⟨alloc_below _ _, rfl, by simp, fun f h => by simp at h, by rw [← hg]; exact Bk.made _ _ _⟩
  have HG : Hid (w.heap.size = g) := hg
  rw [hg]
  clear hg c0
  go_loopw [17] (fun i wr => ∃ (k : Nat) (G : List Ft), k ≤ N ∧ i = .int .i64 k ∧ Hid (AllW w wr g N F G k)) (fun i _ => N - (intOf i).toNat)
  case atStart => exact ⟨0, [], Nat.zero_le _, rfl, H0⟩
  case round =>
    obtain ⟨k, G, hk, rfl, HA⟩ := hrel
    clear H0
    by_cases hlt : k < N
    · have hki : (k : Int) < (N : Int) := by omega
      have hk0 : (0 : Int) ≤ (k : Int) := by omega
      obtain ⟨f, HF⟩ : ∃ f, Hid (F[k]? = some f) := ⟨_, List.getElem?_eq_getElem (by rw [HN.out]; exact hlt)⟩
      have M1 := HM.out wr HA.out.bel
      have hv := M1.rw.vals f (List.mem_of_getElem? HF.out)
      have hok := M1.good.ok f (List.mem_of_getElem? HF.out)
      obtain ⟨q, rfl, c0, c1, c2⟩ := M1.rw.at HF.out
      have HC : Hid (∀ w', Below wr.heap.size wr w' → Calls Tryd.prog 31 #[.agg #[.int .i64 f.id, .string f.t, .slice f.a f.l.length f.c]] w' fun e w2 => ∃ a' c', e = .returned (.agg #[.int .i64 f.id, .string f.t, .slice a' f.l.length c']) ∧ ValsAt w2 w'.heap.size a' c' f.l ∧ Below w'.heap.size w' w2) := by
        intro w' hb
        exact copy_any _ _ _ _ _ f.l w' rfl (hv.next hb).vals (fun e => by obtain ⟨e1, e2⟩ := hv.nil e; exact ⟨by rw [e1]; rfl, e2⟩) (by have := hok.2.1; omega)
      have x := HA.out.box
      rw [show N - k = (N - (k + 1)) + 1 by omega, zC_succ] at x
      have HX : Hid (Bk wr g 44 (ftsC G ++ (zFt ++ zC (N - (k + 1)))).toArray) := x
      have HGl : Hid ((ftsC G).length = k * 3) := by rw [Hid, ftsC_len, HA.out.len]
      obtain ⟨fid, ft, fl, fn, fa, fc, hfe⟩ : ∃ (fid : Int) (ft : ByteArray) (fl : List Val) (fn : Nat) (fa : Option Addr) (fc : Nat), Hid ((f.id : Int) = fid ∧ f.t = ft ∧ f.l = fl ∧ fl.length = fn ∧ f.a = fa ∧ f.c = fc) := ⟨_, _, _, _, _, _, rfl, rfl, rfl, rfl, rfl, rfl⟩
      rw [hfe.out.1, hfe.out.2.1, hfe.out.2.2.1, hfe.out.2.2.2.1, hfe.out.2.2.2.2.1, hfe.out.2.2.2.2.2] at HC
      rw [hfe.out.1] at c0
      rw [hfe.out.2.1] at c1
      rw [hfe.out.2.2.1, hfe.out.2.2.2.1, hfe.out.2.2.2.2.1, hfe.out.2.2.2.2.2] at c2
      have hq := World.block_lt_of_cell? wr _ c0
      clear M1 hv hok x
      have hAl : Hid (Below wr.heap.size wr (wr.alloc (.cells #[.int .i64 fid, .string ft, .slice fa fn fc] 44))) := alloc_below _ _
      go_wp2_with fail
      refine (HC.out _ hAl.out).mono ?_
      rintro e w1 ⟨a', c', rfl, hva, hb⟩
      have hb1 : Below wr.heap.size wr w1 := next_trans hAl.out hb
      have y := HX.out.next hb1
      have hlk := HGl.out
      have y0 : w1.cell? ⟨g, k * 3, none⟩ = some (.int .i64 0) := by
        rw [y.cell (k * 3), show (ftsC G ++ (zFt ++ zC (N - (k + 1)))).toArray[k * 3]? = (ftsC G ++ (zFt ++ zC (N - (k + 1))))[k * 3]? by simp, List.getElem?_append_right (by omega), hlk, Nat.sub_self]; rfl
      have y1 : w1.cell? ⟨g, k * 3 + 1, none⟩ = some (.string ⟨#[]⟩) := by
        rw [y.cell (k * 3 + 1), show (ftsC G ++ (zFt ++ zC (N - (k + 1)))).toArray[k * 3 + 1]? = (ftsC G ++ (zFt ++ zC (N - (k + 1))))[k * 3 + 1]? by simp, List.getElem?_append_right (by omega), hlk, show k * 3 + 1 - k * 3 = 1 by omega]; rfl
      have y2 : w1.cell? ⟨g, k * 3 + 2, none⟩ = some (.slice none 0 0) := by
        rw [y.cell (k * 3 + 2), show (ftsC G ++ (zFt ++ zC (N - (k + 1)))).toArray[k * 3 + 2]? = (ftsC G ++ (zFt ++ zC (N - (k + 1))))[k * 3 + 2]? by simp, List.getElem?_append_right (by omega), hlk, show k * 3 + 2 - k * 3 = 2 by omega]; rfl
      have yf := y.froz
      have hva1 : ValsAt w1 w.heap.size a' c' fl := hva.base (by have h1 := HA.out.bel.size; have h2 := hAl.out.size; omega)
      have HA2 : Hid (AllW w (((w1.setCell ⟨g, k * 3, none⟩ (.int .i64 fid)).setCell ⟨g, k * 3 + 1, none⟩ (.string ft)).setCell ⟨g, k * 3 + 2, none⟩ (.slice a' fn c')) g N F (G ++ [⟨f.id, f.t, f.l, a', c'⟩]) (k + 1)) := by
        have h := HA.out.put (f := f) (a := a') (c := c') (by rw [HG.out]; exact Nat.le_refl _) hlt HF.out hb1 (by rw [hfe.out.2.2.1]; exact hva1)
        rw [← hfe.out.1, ← hfe.out.2.2.2.1, ← hfe.out.2.2.1, ← hfe.out.2.1]
        exact h
      clear HA HC HX hva hva1 hb hb1 y hAl c0 c1 c2 hlk
      go_wp2
      go_roundw
      case rel => exact ⟨k + 1, _, by omega, by go_num, HA2⟩
      case measure => simp [intOf]; omega
    · have hki : ¬ (k : Int) < (N : Int) := by omega
      obtain rfl : k = N := by omega
      obtain ⟨h1, h2⟩ := HA.out.done (by rw [HG.out]; exact Nat.le_refl _) HN.out hn
      have HR : Hid (Rw 44 wr w.heap.size (.slice (some ⟨g, 0, none⟩) k k) G) := h1
      have HE : Hid (G.map Ft.fc = F.map Ft.fc) := h2
      clear h1 h2
      go_wp2
      go_ret
      exact ⟨_, rfl, G, HR.out, HE.out, HA.out.bel⟩
end Go.Proofs.YtgjnnahflaaagaaDoor
