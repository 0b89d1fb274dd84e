/- The contract of Of: copies of the facts of one template. -/
import Derived.Test.YtgjnnahflaaagaaDoorWmAll
namespace Go.Proofs.YtgjnnahflaaagaaDoor
open Go.RowKit Go.Maps

/-- One more fact behind a row of our own. -/
theorem Rw.push {T : Nat} {w1 w2 : World} {B n c : Nat} {v v' : Value} {G : List Ft} {f : Ft} {a : Option Addr} {o : Obj} (h : Rw T w1 B v G) (hT : T ≠ 32) (hv : ValsAt w1 B a c f.l) (hn : G.length = n) (ho : w2.ownsRow B T 3 v' (n + 1) (ftsC G ++ [.int .i64 f.id, .string f.t, .slice a f.l.length c]))
    (hg : (w1.alloc o).grownBy w2 v.ownBlock) : Rw T w2 B v' (G ++ [⟨f.id, f.t, f.l, a, c⟩]) := by
  have hsz : w1.heap.size ≤ (w1.alloc o).heap.size := (alloc_below w1 o).size
  have key : ∀ k, Kd w1 k 32 → w2.heap[k]? = w1.heap[k]? := fun k hk =>
    (hg.block k (Nat.lt_of_lt_of_le hk.lt hsz) (fun e => hT ((Kd.own h.row e.symm).uniq hk))).trans (Below.heap_alloc _ _ _ hk.lt)
  refine ⟨?_, fun f' hf => ?_⟩
  · rw [← ftsC_snoc, List.length_append, hn]
    exact ho
  · have hv' : ValsAt w1 B f'.a f'.c f'.l := by
      rcases List.mem_append.1 hf with hf | hf
      · exact h.vals f' hf
      · simp at hf; subst hf; exact hv
    exact hv'.keep fun x hx => key _ (hv'.blk x hx).2
theorem push_below {w w1 w2 : World} {B e size n : Nat} {v : Value} {xs : List Value} {o : Obj} (h : Below B w w1) (hB : B ≤ w1.heap.size) (ho : w1.ownsRow B e size v n xs) (hg : (w1.alloc o).grownBy w2 v.ownBlock) : Below B w w2 :=
  (h.alloc hB o).grown hg (by have := (alloc_below w1 o).size; omega) (fun k hk => (ho.lt k hk).1)
def ofB (t : ByteArray) (f : Ft) : Bool := decide (f.t = t)
structure OfW (w wr : World) (v : Value) (t : ByteArray) (F G : List Ft) (k : Nat) : Prop where
  bel : Below w.heap.size w wr
  rw : Rw 44 wr w.heap.size v G
  like : G.map Ft.fc = ((F.take k).filter (ofB t)).map Ft.fc
theorem OfW.le {w wr : World} {v : Value} {t : ByteArray} {F G : List Ft} {k : Nat} (h : OfW w wr v t F G k) : G.length ≤ F.length := by
  have h1 := congrArg List.length h.like
  rw [List.length_map, List.length_map] at h1
  have h2 := List.length_filter_le (ofB t) (F.take k)
  have h3 := List.length_take_le' k F
  omega

set_option maxHeartbeats 8000000 in
set_option maxRecDepth 8000 in
theorem of_any (w : World) (B b last : Nat) (v m : Value) (F : List Ft) (M : Mem w B b v m last F) (hn : F.length ≤ 5000) (t : ByteArray) :
    Calls Tryd.prog 22 #[.pointer (some ⟨b, 0, none⟩), .string t] w fun e w' => ∃ v' G, e = .returned v' ∧ Rw 44 w' w.heap.size v' G ∧ G.map Ft.fc = (F.filter (ofB t)).map Ft.fc ∧ Below w.heap.size w w' := by
  obtain ⟨fo, cap, rfl, _, _⟩ := M.rw.slice
  obtain ⟨N, hN⟩ : ∃ N, F.length = N := ⟨_, rfl⟩
  have HN : Hid (F.length = N) := hN
  rw [hN] at M hn
  have HM : Hid (∀ w', Below w.heap.size w w' → Mem w' B b (.slice fo N cap) m last F) := fun w' hb => M.next hb
  obtain ⟨i0, hi, hz0, hz1, hz2⟩ := infoFt'
  have c0 : w.cell? ⟨b, 0, none⟩ = some (.slice fo N cap) := M.box.cell 0
  clear M hN
  go_enter Tryd.func22, Tryd.ntmps22
  go_wp2
  have H0 : Hid (OfW w w (.slice none 0 0) t F [] 0) := ⟨Below.refl _ _, Rw.nil _ _ _, rfl⟩
  clear c0
  go_loopw [5, 13] (fun l i wr => ∃ (k : Nat) (G : List Ft) (lo : Option Addr) (ln lc : Nat), k ≤ N ∧ i = .int .i64 k ∧ l = .slice lo ln lc ∧ Hid (G.length = ln) ∧ Hid (OfW w wr (.slice lo ln lc) t F G k)) (fun _ i _ => N - (intOf i).toNat)
  case atStart => exact ⟨0, [], none, 0, 0, Nat.zero_le _, rfl, rfl, rfl, H0⟩
  case round =>
    obtain ⟨k, G, lo, ln, lc, hk, rfl, rfl, HGl, HA⟩ := hrel
    clear H0
    by_cases hlt : k < N
    · have hki : (k : Int) < (N : Int) := by omega
      have hk0 : (0 : Int) ≤ (k : Int) := by omega
      obtain ⟨f, HF⟩ : ∃ f, Hid (F[k]? = some f) := ⟨_, List.getElem?_eq_getElem (by rw [HN.out]; exact hlt)⟩
      have M1 := HM.out wr HA.out.bel
      have hv := M1.rw.vals f (List.mem_of_getElem? HF.out)
      have hok := M1.good.ok f (List.mem_of_getElem? HF.out)
      obtain ⟨q, rfl, c0, c1, c2⟩ := M1.rw.at HF.out
      have hlnN : ln ≤ N := by rw [← HGl.out, ← HN.out]; exact HA.out.le
      have htk : Hid (F.take (k + 1) = F.take k ++ [f]) := by
        obtain ⟨h1, h2⟩ := List.getElem?_eq_some_iff.1 HF.out
        rw [Hid, List.take_succ_eq_append_getElem h1, h2]
      have HC : Hid (∀ w', Below wr.heap.size wr w' → Calls Tryd.prog 31 #[.agg #[.int .i64 f.id, .string f.t, .slice f.a f.l.length f.c]] w' fun e w2 => ∃ a' c', e = .returned (.agg #[.int .i64 f.id, .string f.t, .slice a' f.l.length c']) ∧ ValsAt w2 w'.heap.size a' c' f.l ∧ Below w'.heap.size w' w2) := by
        intro w' hb
        exact copy_any _ _ _ _ _ f.l w' rfl (hv.next hb).vals (fun e => by obtain ⟨e1, e2⟩ := hv.nil e; exact ⟨by rw [e1]; rfl, e2⟩) (by have := hok.2.1; omega)
      obtain ⟨fid, ft, fl, fn, fa, fc, hfe⟩ : ∃ (fid : Int) (ft : ByteArray) (fl : List Val) (fn : Nat) (fa : Option Addr) (fc : Nat), Hid ((f.id : Int) = fid ∧ f.t = ft ∧ f.l = fl ∧ fl.length = fn ∧ f.a = fa ∧ f.c = fc) := ⟨_, _, _, _, _, _, rfl, rfl, rfl, rfl, rfl, rfl⟩
      rw [hfe.out.1, hfe.out.2.1, hfe.out.2.2.1, hfe.out.2.2.2.1, hfe.out.2.2.2.2.1, hfe.out.2.2.2.2.2] at HC
      rw [hfe.out.1] at c0
      rw [hfe.out.2.1] at c1
      rw [hfe.out.2.2.1, hfe.out.2.2.2.1, hfe.out.2.2.2.2.1, hfe.out.2.2.2.2.2] at c2
      have hq := World.block_lt_of_cell? wr _ c0
      clear M1 hv hok
      have hAl : Hid (Below wr.heap.size wr (wr.alloc (.cells #[.int .i64 fid, .string ft, .slice fa fn fc] 44))) := alloc_below _ _
      by_cases ht : ft = t
      · have hd : (ft.toList == t.toList) = true := by rw [beq_ba]; exact decide_eq_true ht
        have hob : Hid (ofB t f = true) := by rw [Hid]; unfold ofB; rw [hfe.out.2.1]; exact decide_eq_true ht
        clear ht
        go_wp2_with fail
        refine (HC.out _ hAl.out).mono ?_
        rintro e w1 ⟨a', c', rfl, hva, hb⟩
        have hb1 : Below wr.heap.size wr w1 := next_trans hAl.out hb
        have HR1 := HA.out.rw.next hb1
        have hro := HR1.row
        rw [HGl.out] at hro
        have hva1 : ValsAt w1 w.heap.size a' c' fl := hva.base (by have h1 := HA.out.bel.size; have h2 := hAl.out.size; omega)
        have hsz1 : w.heap.size ≤ w1.heap.size := by have h1 := HA.out.bel.size; have h2 := hb1.size; omega
        have HP : Hid (∀ v' w2, w2.ownsRow w.heap.size 44 3 v' (ln + 1) (ftsC G ++ [.int .i64 fid, .string ft, .slice a' fn c']) → (w1.alloc (.cells #[.int .i64 fid, .string ft, .slice a' fn c'] 44)).grownBy w2 (Value.ownBlock (.slice lo ln lc)) → OfW w w2 v' t F (G ++ [⟨f.id, f.t, f.l, a', c'⟩]) (k + 1)) := by
          intro v' w2 ho hg
          refine ⟨push_below (HA.out.bel.trans (hb1.mono HA.out.bel.size)) hsz1 hro hg, ?_, ?_⟩
          · refine HR1.push (f := f) (by decide) (by rw [hfe.out.2.2.1]; exact hva1) HGl.out ?_ hg
            rw [hfe.out.1, hfe.out.2.1, hfe.out.2.2.1, hfe.out.2.2.2.1]
            exact ho
          · rw [htk.out, List.filter_append, List.map_append, List.map_append, HA.out.like]
            congr 1
            simp [hob.out]
            rfl
        have HRo : Hid (w1.ownsRow w.heap.size 44 3 (.slice lo ln lc) ln (ftsC G)) := hro
        clear HA HC hva hva1 hb hb1 hAl c0 c1 c2 HR1 hro
        go_wp2_with (first
          | (at_builtin; refine wpList_append_own _ rfl _ _ 42 rfl w.heap.size 44 i0 (.agg #[.int .i64 0, .string ⟨#[]⟩, .slice none 0 0]) 3 48 Tryd.underlying42 hi hz0 hz1 hz2 rfl (by decide) (.slice lo ln lc) ln (ftsC G) rfl (HRo.out.alloc _) ⟨w1.heap.size, 0, none⟩ 1 1 [.int .i64 fid, .string ft, .slice a' fn c'] rfl rfl (ft_news w1 _ rfl _ _ _ _) (ftC_one3 _ _ _ _ _) (by unfold maxLen; omega) (by omega) (by simp; omega) ?_; intro v' w2 hown hgrow _)
          | go_in)
        have HA2 := HP.out v' w2 hown hgrow
        obtain ⟨lo2, lc2, rfl, _, _⟩ := HA2.rw.slice
        have HA3 : Hid _ := HA2
        clear hown hgrow HA2
        go_roundw
        case rel => exact ⟨k + 1, _, lo2, _, lc2, by omega, by go_num, rfl, rfl, HA3⟩
        case measure => simp [intOf]; omega
      · have hd : (ft.toList == t.toList) = false := by rw [beq_ba]; exact decide_eq_false ht
        have HA2 : Hid (OfW w (wr.alloc (.cells #[.int .i64 fid, .string ft, .slice fa fn fc] 44)) (.slice lo ln lc) t F G (k + 1)) := by
          refine ⟨next_trans HA.out.bel hAl.out, HA.out.rw.next hAl.out, ?_⟩
          rw [htk.out, List.filter_append, List.map_append, HA.out.like]
          have : ofB t f = false := by unfold ofB; rw [hfe.out.2.1]; exact decide_eq_false ht
          simp [this]
        clear HA HC ht
        go_wp2
        go_roundw
        case rel => exact ⟨k + 1, G, lo, ln, lc, by omega, by go_num, rfl, HGl, HA2⟩
        case measure => simp [intOf]; omega
    · have hki : ¬ (k : Int) < (N : Int) := by omega
      have HE : Hid (G.map Ft.fc = (F.filter (ofB t)).map Ft.fc) := by
        have := HA.out.like
        rw [List.take_of_length_le (by rw [HN.out]; omega)] at this
        exact this
      go_wp2
      go_ret
      exact ⟨_, rfl, G, HA.out.rw, HE.out, HA.out.bel⟩
end Go.Proofs.YtgjnnahflaaagaaDoor
