/- The walk of the law MemoryKinds. -/
import Derived.Test.YtgjnnahflaaagaaDoorWmKnown
import Derived.Test.YtgjnnahflaaagaaDoorWmOpen
namespace Go.Proofs.YtgjnnahflaaagaaDoor
open Go.RowKit Go.Maps

/-- The three names. -/
def nm3 : Nat → ByteArray
  | 0 => ⟨#[112]⟩
  | 1 => ⟨#[113]⟩
  | _ => ⟨#[114]⟩
theorem nm3_size (z : Nat) : (nm3 z).size = 1 := by
  match z with
  | 0 => rfl
  | 1 => rfl
  | _ + 2 => rfl
def namesC : Array Value := #[.string ⟨#[112]⟩, .string ⟨#[113]⟩, .string ⟨#[114]⟩]
theorem names_at {w : World} {nb : Nat} (h : Bk w nb 9 namesC) {z : Nat} (hz : z < 3) : w.cell? ⟨nb, z, none⟩ = some (.string (nm3 z)) := by
  rw [h.cell]
  match z, hz with
  | 0, _ => rfl
  | 1, _ => rfl
  | 2, _ => rfl
/-- A world in the first loop. -/
structure KdW (w wr : World) (b nb : Nat) (v m : Value) (k last : Nat) (F : List Ft) : Prop where
  lw : LW w wr b v m last F
  le : last ≤ k
  nm : Bk wr nb 9 namesC
  one : ∀ f ∈ F, f.t.size = 1
theorem KdW.next {w wr w' : World} {b nb k last : Nat} {v m : Value} {F : List Ft} (h : KdW w wr b nb v m k last F) (hb : Below wr.heap.size wr w') : KdW w w' b nb v m k last F :=
  ⟨h.lw.next hb, h.le, h.nm.next hb, h.one⟩

theorem filter_like : ∀ (F G : List Ft) (t : ByteArray), F.map Ft.fc = G.map Ft.fc → (F.filter (ofB t)).map Ft.fc = (G.filter (ofB t)).map Ft.fc
  | [], [], _, _ => rfl
  | [], _ :: _, _, h => by simp at h
  | _ :: _, [], _, h => by simp at h
  | f :: F, g :: G, t, h => by
    rw [List.map_cons, List.map_cons] at h
    injection h with h1 h2
    have ih := filter_like F G t h2
    have e : ofB t f = ofB t g := by
      have : f.t = g.t := congrArg (fun x => x.2.1) h1
      unfold ofB; rw [this]
    rw [List.filter_cons, List.filter_cons, e]
    split
    · rw [List.map_cons, List.map_cons, h1, ih]
    · exact ih
theorem like_mem {F G : List Ft} (e : G.map Ft.fc = F.map Ft.fc) {g : Ft} (hg : g ∈ G) : ∃ f ∈ F, f.id = g.id ∧ f.t = g.t ∧ f.l = g.l := by
  have : g.fc ∈ F.map Ft.fc := by rw [← e]; exact List.mem_map_of_mem hg
  obtain ⟨f, hf, he⟩ := List.mem_map.1 this
  exact ⟨f, hf, congrArg Prod.fst he, congrArg (fun x => x.2.1) he, congrArg (fun x => x.2.2) he⟩
/-- What is of another kind may turn: the memory stays. -/
theorem Mem.but {w w' : World} {B b last T : Nat} {v m : Value} {F : List Ft} {g : Option Nat} (M : Mem w B b v m last F) (hk : ∀ k, g = some k → Kd w k T) (h1 : T ≠ 61) (h2 : T ≠ 44) (h3 : T ≠ 32) (h : ∀ k, k < w.heap.size → some k ≠ g → w'.heap[k]? = w.heap[k]?) : Mem w' B b v m last F := by
  have key : ∀ k T', Kd w k T' → T' ≠ T → w'.heap[k]? = w.heap[k]? := fun k T' hkd hne => h k hkd.lt (fun e => hne (hkd.uniq (hk k e.symm)))
  exact {
    box := M.box.keep (key _ _ M.box.kd (fun e => h1 e.symm))
    hb := M.hb
    rw := M.rw.keep (fun k hk => key _ _ (Kd.own M.rw.row hk) (fun e => h2 e.symm)) (fun k hk => key _ _ hk (fun e => h3 e.symm))
    map := by
      rcases M.map with e | ⟨bm, e, hb, hm⟩
      · exact .inl e
      · exact .inr ⟨bm, e, hb, hm.same (h bm hm.lt (fun e => hm.notKd (hk bm e.symm)))⟩
    good := M.good
    small := M.small }
/-- A world in the second loop. -/
structure KeW (w wr : World) (b nb : Nat) (v m al : Value) (last : Nat) (F G : List Ft) (z B2 k : Nat) (want : Value) : Prop where
  kd : KdW w wr b nb v m 100 last F
  all : Rw 34 wr w.heap.size al G
  like : G.map Ft.fc = F.map Ft.fc
  want : wr.ownsRow B2 34 3 want ((G.take k).filter (ofB (nm3 z))).length (ftsC ((G.take k).filter (ofB (nm3 z))))
  ap : ∀ k, al.ownBlock = some k → k < B2
  b2 : w.heap.size ≤ B2 ∧ B2 ≤ wr.heap.size
theorem KeW.next {w wr w' : World} {b nb last z B2 k : Nat} {v m al want : Value} {F G : List Ft} (h : KeW w wr b nb v m al last F G z B2 k want) (hb : Below wr.heap.size wr w') : KeW w w' b nb v m al last F G z B2 k want :=
  ⟨h.kd.next hb, h.all.next hb, h.like, own_next h.want hb, h.ap, h.b2.1, Nat.le_trans h.b2.2 hb.size⟩
theorem KeW.len {w wr : World} {b nb last z B2 k : Nat} {v m al want : Value} {F G : List Ft} (h : KeW w wr b nb v m al last F G z B2 k want) : ((G.take k).filter (ofB (nm3 z))).length ≤ 100 := by
  have h1 := List.length_filter_le (ofB (nm3 z)) (G.take k)
  have h2 := List.length_take_le' k G
  have h3 := like_len h.like
  have h4 := h.kd.lw.len
  have h5 := h.kd.le
  omega
theorem own_slice {w : World} {B e size n : Nat} {v : Value} {xs : List Value} (h : w.ownsRow B e size v n xs) : ∃ ao cap, v = .slice ao n cap := by
  rcases h.2 with ⟨rfl, h0⟩ | ⟨g, cap, cur, rfl, _⟩
  · exact ⟨none, 0, by rw [h0]⟩
  · exact ⟨_, _, rfl⟩
theorem KeW.push {w wr w2 : World} {b nb last z B2 k ln : Nat} {v m al v' want : Value} {F G : List Ft} {f : Ft} {o : Obj} {fid : Int} {ft : ByteArray} {fl : List Val} {fn fc : Nat} {fa : Option Addr} (h : KeW w wr b nb v m al last F G z B2 k want)
    (hfe : (f.id : Int) = fid ∧ f.t = ft ∧ f.l = fl ∧ fl.length = fn ∧ f.a = fa ∧ f.c = fc) (hwl : ln = ((G.take k).filter (ofB (nm3 z))).length) (hlk : (G.take (k + 1)).filter (ofB (nm3 z)) = (G.take k).filter (ofB (nm3 z)) ++ [f])
    (ho : w2.ownsRow B2 34 3 v' (ln + 1) (ftsC ((G.take k).filter (ofB (nm3 z))) ++ [.int .i64 fid, .string ft, .slice fa fn fc])) (hg : (wr.alloc o).grownBy w2 want.ownBlock) : KeW w w2 b nb v m al last F G z B2 (k + 1) v' := by
  have hsz : wr.heap.size ≤ (wr.alloc o).heap.size := (alloc_below wr o).size
  have hblk : ∀ k, k < wr.heap.size → some k ≠ want.ownBlock → w2.heap[k]? = wr.heap[k]? := fun k hk hn =>
    (hg.block k (Nat.lt_of_lt_of_le hk hsz) hn).trans (Below.heap_alloc _ _ _ hk)
  have hkd : ∀ k, want.ownBlock = some k → Kd wr k 34 := fun k hk => Kd.own h.want hk
  have key : ∀ k T', Kd wr k T' → T' ≠ 34 → w2.heap[k]? = wr.heap[k]? := fun k T' hk hne => hblk k hk.lt (fun e => hne (hk.uniq (hkd k e.symm)))
  have hB2 : B2 ≤ wr.heap.size := h.b2.2
  have hbel : Below B2 wr w2 := push_below (Below.refl _ _) hB2 h.want hg
  refine ⟨⟨⟨h.kd.lw.bel.trans (hbel.mono h.b2.1), h.kd.lw.mem.but hkd (by decide) (by decide) (by decide) hblk, h.kd.lw.tab⟩, h.kd.le, h.kd.nm.keep (key _ _ h.kd.nm.kd (by decide)), h.kd.one⟩, ?_, h.like, ?_, h.ap, h.b2.1, Nat.le_trans hB2 hbel.size⟩
  · refine h.all.keep (fun k hk => ?_) (fun k hk => key _ _ hk (by decide))
    exact hbel.block k (h.ap k hk)
  · rw [hlk, ← ftsC_snoc, List.length_append, ← hwl]
    unfold ftC
    rw [hfe.1, hfe.2.1, hfe.2.2.1, hfe.2.2.2.1, hfe.2.2.2.2.1, hfe.2.2.2.2.2]
    exact ho

set_option maxHeartbeats 16000000 in
set_option maxRecDepth 8000 in
theorem kinds_walk (ao : Option Addr) (len cap : Nat) (l : List Nat) (t : Int) (w : World) (hl : l.length = len) (wl : IsBy w ao l) (ht8 : 0 ≤ t ∧ t < 256) (ht : TabW w) : Calls Tryd.prog 5 #[.slice ao len cap, .int .u8 t] w fun e w' => e = .returned (.bool true) ∧ Below w.heap.size w w' := by
  have hk := known_yes w ht
  by_cases h1 : 100 < len
  · have d1 : decide ((100 : Int) < (len : Int)) = true := decide_eq_true (by omega)
    go_enter Tryd.func5, Tryd.ntmps5
    go_wp2_with (go_at_call 7; refine hk.mono ?_; rintro e w0 ⟨rfl, hb0⟩)
    go_ret
    exact ⟨rfl, hb0⟩
  have d1 : decide ((100 : Int) < (len : Int)) = false := decide_eq_false (by omega)
  have hlb : len ≤ 100 := by omega
  have HLn : Hid (l.length = len) := hl
  have HIs : Hid (IsBy w ao l) := wl
  clear h1 hl wl
  go_enter Tryd.func5, Tryd.ntmps5
  go_wp2_with fail
  refine hk.mono ?_
  rintro e w0 ⟨rfl, hb0⟩
  have hnew := lw_new w w0 hb0 ht
  clear hb0 hk
  go_wp2_with fail
  refine hnew.mono ?_
  rintro e w1 ⟨b, v1, m1, rfl, H1, _⟩
  clear hnew
  obtain ⟨nb, hnb⟩ : ∃ nb, w1.heap.size = nb := ⟨_, rfl⟩
  have HK1 : Hid (KdW w (w1.alloc (.cells #[.string ⟨#[112]⟩, .string ⟨#[113]⟩, .string ⟨#[114]⟩] 9)) b nb v1 m1 0 0 []) := by
    refine ⟨H1.next (alloc_below _ _), Nat.le_refl _, ?_, fun f h => by simp at h⟩
    rw [← hnb]
    exact Bk.made _ _ _
  clear H1
  go_wp2_with fail
  clear hnb
  go_loopw [7] (fun i wr => ∃ (k last : Nat) (v m : Value) (F : List Ft), k ≤ len ∧ i = .int .i64 k ∧ Hid (KdW w wr b nb v m k last F)) (fun i _ => len - (intOf i).toNat)
  case atStart => exact ⟨0, 0, v1, m1, [], Nat.zero_le _, rfl, HK1⟩
  case round =>
    obtain ⟨k, last, v, m, F, hk, rfl, HL⟩ := hrel
    clear HK1
    by_cases hlt : k < len
    · have hki : (k : Int) < (len : Int) := by omega
      have hk0 : (0 : Int) ≤ (k : Int) := by omega
      obtain ⟨c, HCk⟩ : ∃ c, Hid (l[k]? = some c) := ⟨_, List.getElem?_eq_getElem (by rw [HLn.out]; exact hlt)⟩
      obtain ⟨hc, cb, co, rfl, c0⟩ := (HIs.out.next HL.out.lw.bel) k c HCk.out
      obtain ⟨ci, hci⟩ : ∃ ci : Int, (c : Int) = ci := ⟨_, rfl⟩
      rw [hci] at c0
      have hc0 : 0 ≤ ci := by omega
      have hc1 : ci < 256 := by omega
      obtain ⟨z, hz1⟩ : ∃ z : Nat, ci % 3 = (z : Int) := ⟨(ci % 3).toNat, by omega⟩
      have hz3 : ci.tmod 3 = (z : Int) := by rw [Int.tmod_eq_emod_of_nonneg hc0]; exact hz1
      have hz2 : (z : Int) < 3 := by omega
      have hz0 : (0 : Int) ≤ (z : Int) := by omega
      obtain ⟨y, hy⟩ : ∃ y : Int, ci / 4 = y := ⟨_, rfl⟩
      have hyw : IntKind.i64.wrap y = y := by rw [IntKind.wrap_i64]; omega
      have hyb : inB y = true := by rw [inB_iff]; omega
      have n0 := names_at HL.out.nm (z := z) (by omega)
      have HAs : Hid (∀ w2, Below wr.heap.size wr w2 → Calls Tryd.prog 12 #[.pointer (some ⟨b, 0, none⟩), .string (nm3 z), .slice (some ⟨w2.heap.size, 0, none⟩) 1 1] (w2.alloc (.cells #[.int .i64 1, .int .i64 y, .string ⟨#[]⟩] 32)) fun e w' => ∃ (x : Int) (q : Bool) (v' m' : Value) (last' : Nat) (F' : List Ft), e = .returned (.tuple #[.int .i64 x, .bool q, .int .i64 0]) ∧ KdW w w' b nb v' m' (k + 1) last' F') := by
        intro w2 hb2
        obtain ⟨H3, A3⟩ := (HL.out.lw.next hb2).lit (nm3 z) y hyb (by rw [nm3_size]; omega)
        have hnm : Bk (w2.alloc (.cells #[.int .i64 1, .int .i64 y, .string ⟨#[]⟩] 32)) nb 9 namesC := (HL.out.nm.next hb2).next (alloc_below _ _)
        have hle := HL.out.le
        have hln := H3.len
        by_cases h0 : idOf F (keyB (nm3 z) [⟨1, y, ⟨#[]⟩⟩]) = 0
        · refine (H3.assert_new A3 h0 (by omega) (by omega)).mono ?_
          rintro e w' ⟨he, v', m', a', c', H4, ho, _⟩
          refine ⟨_, _, v', m', _, _, he, H4, by omega, hnm.keep (ho nb _ hnm.kd (by decide) (by decide)), ?_⟩
          intro f hf
          rcases List.mem_append.1 hf with hf | hf
          · exact HL.out.one f hf
          · simp at hf; subst hf; exact nm3_size z
        · refine (H3.assert_has A3 _ rfl h0).mono ?_
          rintro e w' ⟨he, H4, hb⟩
          exact ⟨_, _, v, m, _, F, he, H4, by omega, hnm.next hb, HL.out.one⟩
      have hcl : ∀ w', KdW w w' b nb v m k last F → True := fun _ _ => trivial
      have HCl : Hid (∀ w', Below w.heap.size w w' → w'.cell? ⟨cb, co + k, none⟩ = some (.int .u8 ci)) := by
        intro w' hb
        obtain ⟨_, b', o', e, h⟩ := HIs.out k c HCk.out
        obtain ⟨rfl, rfl⟩ : cb = b' ∧ co = o' := by injection e with e; injection e with e1 e2; exact ⟨e1, e2⟩
        have hw0 := keep_cell HL.out.lw.bel h
        rw [c0] at hw0
        rw [hb.cell (World.block_lt_of_cell? w _ h), h, hw0]
      clear hcl HL
      go_wp2_with fail
      go_region_held3 (fun w' => w'.cell? ⟨cb, co + k, none⟩ = some (.int .u8 ci) ∧ w'.cell? ⟨nb, z, none⟩ = some (.string (nm3 z)))
        (((try dsimp only); go_split_ands; refine ⟨?_, ?_⟩ <;> first | assumption | exact keep_cell (by assumption) (by assumption) | exact alloc_cell (by assumption)))
        (first
          | (go_at_call 16; refine (rint_any y _).mono ?_; rintro e w2 ⟨rfl, hb2⟩)
          | (go_at_call 12; refine (HAs.out w2 (below_undrawn hb2)).mono ?_; rintro e w3 ⟨x3, q3, v3, m3, last3, F3, rfl, H3⟩; have g1 := HCl.out w3 H3.lw.bel; have g2 := names_at H3.nm (z := z) (by omega); have HK3 : Hid (KdW w w3 b nb v3 m3 (k + 1) last3 F3) := H3))
      clear H3 g1 g2 hb2 HAs HCl n0 c0
      go_wp2
      go_roundw
      case rel => exact ⟨k + 1, last3, v3, m3, F3, by omega, by go_num, HK3⟩
      case measure => simp [intOf]; omega
    · have hki : ¬ (k : Int) < (len : Int) := by omega
      have hkl : k ≤ 100 := by omega
      have HK : Hid (KdW w wr b nb v m 100 last F) := ⟨HL.out.lw, Nat.le_trans HL.out.le hkl, HL.out.nm, HL.out.one⟩
      have hal := all_any wr w.heap.size b last v m F HL.out.lw.mem HL.out.lw.small
      obtain ⟨z, hz1⟩ : ∃ z : Nat, t.tmod 3 = (z : Int) := ⟨(t % 3).toNat, by rw [Int.tmod_eq_emod_of_nonneg ht8.1]; omega⟩
      have hz2 : (z : Int) < 3 := by rw [Int.tmod_eq_emod_of_nonneg ht8.1] at hz1; omega
      have hz0 : (0 : Int) ≤ (z : Int) := by omega
      clear HL hkl hlt hk HLn HIs d1
      go_wp2_with fail
      refine hal.mono ?_
      rintro e w2 ⟨v2, G, rfl, hR2, hE2, hb2⟩
      obtain ⟨ao2, cap2, rfl, _, _⟩ := hR2.slice
      have HK2 : Hid (KdW w w2 b nb v m 100 last F) := HK.out.next hb2
      have hGl : G.length ≤ 100 := by
        rw [like_len hE2]
        have h1 := HK.out.lw.len
        have h2 := HK.out.le
        omega
      obtain ⟨N, hN⟩ : ∃ N, G.length = N := ⟨_, rfl⟩
      have HN : Hid (G.length = N) := hN
      rw [hN] at hR2 hGl
      have hlo := lof_any w2 w.heap.size N cap2 ao2 G (by rw [← hN] at hR2 ⊢; exact hR2.base HK.out.lw.bel.size) HK2.out.lw.bel.size (by omega)
      have HE : Hid (G.map Ft.fc = F.map Ft.fc) := hE2
      clear hal hb2 hR2 hE2 HK
      rw [hN]
      clear hN
      go_wp2_with fail
      refine hlo.mono ?_
      rintro e w3 ⟨ao3, cap3, rfl, hR3, hb3⟩
      obtain ⟨B2, hB2⟩ : ∃ B2, w3.heap.size = B2 := ⟨_, rfl⟩
      have HS : Hid (KeW w w3 b nb v m (.slice ao3 N cap3) last F G z B2 0 (.slice none 0 0)) := by
        refine ⟨HK2.out.next hb3, hR3, HE.out, World.ownsRow_nil _ _ _ _, fun k hk => by rw [← hB2]; exact (hR3.row.lt k hk).2, ?_, by rw [← hB2]; exact Nat.le_refl _⟩
        rw [← hB2]; exact (HK2.out.next hb3).lw.bel.size
      clear hlo hb3 hR3 HK2 hB2
      go_wp2_with fail
      go_loopw [8, 10] (fun wt i wr => ∃ (k : Nat) (lo : Option Addr) (ln lc : Nat), k ≤ N ∧ i = .int .i64 k ∧ wt = .slice lo ln lc ∧ Hid (KeW w wr b nb v m (.slice ao3 N cap3) last F G z B2 k (.slice lo ln lc))) (fun _ i _ => N - (intOf i).toNat)
      case atStart => exact ⟨0, none, 0, 0, Nat.zero_le _, rfl, rfl, HS⟩
      case round =>
        obtain ⟨k, lo, ln, lc, hk, rfl, rfl, HL⟩ := hrel
        clear HS
        by_cases hlt : k < N
        · have hki : (k : Int) < (N : Int) := by omega
          have hk0 : (0 : Int) ≤ (k : Int) := by omega
          obtain ⟨f, HF⟩ : ∃ f, Hid (G[k]? = some f) := ⟨_, List.getElem?_eq_getElem (by rw [HN.out]; exact hlt)⟩
          have HGd : Hid (Good G last) := HL.out.kd.lw.mem.good.like HE.out.symm
          have n0 := names_at HL.out.kd.nm (z := z) (by omega)
          obtain ⟨tn, htn⟩ : ∃ tn, Hid (nm3 z = tn) := ⟨_, rfl⟩
          rw [htn.out] at n0
          have hlen := HL.out.len
          have hwl : ln = ((G.take k).filter (ofB (nm3 z))).length := by
            obtain ⟨_, _, e⟩ := own_slice HL.out.want
            injection e
          rw [← hwl] at hlen
          have HWl : Hid (ln = ((G.take k).filter (ofB (nm3 z))).length) := hwl
          obtain ⟨q, rfl, c0, c1, c2⟩ := HL.out.all.at HF.out
          have HV : Hid (∀ wr', KeW w wr' b nb v m (.slice (some ⟨q, 0, none⟩) N cap3) last F G z B2 k (.slice lo ln lc) → ValsAt wr' w.heap.size f.a f.c f.l) := fun wr' h => h.all.vals f (List.mem_of_getElem? HF.out)
          have htk : Hid (G.take (k + 1) = G.take k ++ [f]) := by
            obtain ⟨h1, h2⟩ := List.getElem?_eq_some_iff.1 HF.out
            rw [Hid, List.take_succ_eq_append_getElem h1, h2]
          have HR : Hid (∀ j g, j < k → G[j]? = some g → decide ((f.id : Int) ≤ (g.id : Int)) = false) := by
            intro j g hj hg
            have := HGd.out.lt hg HF.out hj
            exact decide_eq_false (by omega)
          have HAt : Hid (∀ j g, G[j]? = some g → wr.cell? ⟨q, j * 3, none⟩ = some (.int .i64 g.id)) := by
            intro j g hg
            obtain ⟨q', e, h0, _⟩ := HL.out.all.at hg
            obtain rfl : q = q' := by injection e with e; injection e
            exact h0
          obtain ⟨fid, ft, fl, fn, fa, fc, hfe⟩ : ∃ (fid : Int) (ft : ByteArray) (fl : List Val) (fn : Nat) (fa : Option Addr) (fc : Nat), Hid ((f.id : Int) = fid ∧ f.t = ft ∧ f.l = fl ∧ fl.length = fn ∧ f.a = fa ∧ f.c = fc) := ⟨_, _, _, _, _, _, rfl, rfl, rfl, rfl, rfl, rfl⟩
          rw [hfe.out.1] at c0 HR
          rw [hfe.out.2.1] at c1
          rw [hfe.out.2.2.1, hfe.out.2.2.2.1, hfe.out.2.2.2.2.1, hfe.out.2.2.2.2.2] at c2
          have HC2 : Hid (wr.cell? ⟨q, k * 3 + 2, none⟩ = some (.slice fa fn fc)) := c2
          have HC0 : Hid (wr.cell? ⟨q, k * 3, none⟩ = some (.int .i64 fid) ∧ wr.cell? ⟨q, k * 3 + 1, none⟩ = some (.string ft) ∧ wr.cell? ⟨nb, z, none⟩ = some (.string tn)) := ⟨c0, c1, n0⟩
          clear hwl HGd c2 c1 n0
          have hprev : Hid (k = 0 ∨ ∃ (j : Nat) (gid : Int), k = j + 1 ∧ wr.cell? ⟨q, j * 3, none⟩ = some (.int .i64 gid) ∧ decide (fid ≤ gid) = false) := by
            rcases Nat.eq_zero_or_pos k with h | h
            · exact .inl h
            · refine .inr ⟨k - 1, ((G[k - 1]'(by rw [HN.out]; omega)).id : Int), by omega, ?_, ?_⟩
              · exact HAt.out (k - 1) _ (List.getElem?_eq_getElem (by rw [HN.out]; omega))
              · exact HR.out (k - 1) _ (by omega) (List.getElem?_eq_getElem (by rw [HN.out]; omega))
          clear HR HAt
          obtain ⟨c0, c1, n0⟩ := HC0.out
          obtain ⟨i0, hi, hz3, hz4, hz5⟩ := infoRf'
          have c2 := HC2.out
          rcases hprev.out with h0 | ⟨j, gid, hj, d0, dle⟩
          · have dk : decide ((0 : Int) < (k : Int)) = false := decide_eq_false (by omega)
            have dk2 : decide (0 < k) = false := decide_eq_false (by omega)
            clear h0
            by_cases heq : ft = tn
            · have hd : (ft.toList == tn.toList) = true := by rw [beq_ba]; exact decide_eq_true heq
              have hob : Hid (ofB (nm3 z) f = true) := by rw [Hid, htn.out]; unfold ofB; rw [hfe.out.2.1]; exact decide_eq_true heq
              have hlk : Hid ((G.take (k + 1)).filter (ofB (nm3 z)) = (G.take k).filter (ofB (nm3 z)) ++ [f]) := by
                rw [Hid, htk.out, List.filter_append]
                simp [hob.out]
              have HP : Hid (∀ n v' w2, w2.ownsRow B2 34 3 v' (ln + 1) (ftsC ((G.take k).filter (ofB (nm3 z))) ++ [.int .i64 fid, .string ft, .slice fa fn fc]) → ((wr.drewN n).alloc (.cells #[.int .i64 fid, .string ft, .slice fa fn fc] 34)).grownBy w2 (Value.ownBlock (.slice lo ln lc)) → KeW w w2 b nb v m (.slice (some ⟨q, 0, none⟩) N cap3) last F G z B2 (k + 1) v') := by
                intro n v' w2 ho hg
                have HLn := HL.out.next (below_drawn (Below.refl _ wr) n)
                exact HLn.push hfe.out HWl.out hlk.out ho hg
              have HRo : Hid (∀ n, (wr.drewN n).ownsRow B2 34 3 (.slice lo ln lc) ln (ftsC ((G.take k).filter (ofB (nm3 z))))) := by
                intro n
                have h := (HL.out.next (below_drawn (Below.refl _ wr) n)).want
                rw [← HWl.out] at h
                exact h
              have hsz : B2 ≤ wr.heap.size := HL.out.b2.2
              clear heq HL
              go_wp2_with fail
              go_quiet (fail)
              go_wp2_with fail
              go_quiet (fail)
              go_wp2_with (first
                | (at_builtin; refine wpList_append_own _ rfl _ _ 26 rfl B2 34 i0 (.agg #[.int .i64 0, .string ⟨#[]⟩, .slice none 0 0]) 3 48 Tryd.underlying26 hi hz3 hz4 hz5 rfl (by decide) (.slice lo ln lc) ln (ftsC ((G.take k).filter (ofB (nm3 z)))) rfl ((HRo.out _).alloc _) ⟨wr.heap.size, 0, none⟩ 1 1 [.int .i64 fid, .string ft, .slice fa fn fc] rfl rfl (ft_news (wr.drewN _) _ rfl _ _ _ _) (ftC_one3 _ _ _ _ _) (by unfold maxLen; omega) (by omega) (by simp; omega) ?_; intro v9 w9 hown9 hgrow9 _)
                | go_in)
              have HA2 := HP.out _ v9 w9 hown9 hgrow9
              obtain ⟨lo2, lc2, rfl⟩ := own_slice hown9
              have HA3 : Hid _ := HA2
              clear hown9 hgrow9 HA2 HP HRo
              go_roundw
              case rel => exact ⟨k + 1, lo2, _, lc2, by omega, by go_num, rfl, HA3⟩
              case measure => simp [intOf]; omega
            · have hd : (ft.toList == tn.toList) = false := by rw [beq_ba]; exact decide_eq_false heq
              have hob : Hid (ofB (nm3 z) f = false) := by rw [Hid, htn.out]; unfold ofB; rw [hfe.out.2.1]; exact decide_eq_false heq
              have HA3 : Hid (∀ n, KeW w (wr.drewN n) b nb v m (.slice (some ⟨q, 0, none⟩) N cap3) last F G z B2 (k + 1) (.slice lo ln lc)) := by
                intro n
                have HLn := HL.out.next (below_drawn (Below.refl _ wr) n)
                refine ⟨HLn.kd, HLn.all, HLn.like, ?_, HLn.ap, HLn.b2⟩
                have h := HLn.want
                have e : [f].filter (ofB (nm3 z)) = [] := by simp [hob.out]
                rw [htk.out, List.filter_append, e, List.append_nil]
                exact h
              clear heq HL
              go_wp2_with fail
              go_quiet (fail)
              go_wp2_with fail
              go_quiet (fail)
              go_wp2_with fail
              go_roundw
              case rel => exact ⟨k + 1, lo, _, lc, by omega, by go_num, rfl, HA3.out _⟩
              case measure => simp [intOf]; omega
          · have dk : decide ((0 : Int) < (k : Int)) = true := decide_eq_true (by omega)
            have dk2 : decide (0 < k) = true := decide_eq_true (by omega)
            have hkj : (k : Int) - 1 = (j : Int) := by omega
            have hjN : (j : Int) < (N : Int) := by omega
            have hj0 : (0 : Int) ≤ (j : Int) := by omega
            have HJ : Hid (k = j + 1) := hj
            clear hj
            by_cases heq : ft = tn
            · have hd : (ft.toList == tn.toList) = true := by rw [beq_ba]; exact decide_eq_true heq
              have hob : Hid (ofB (nm3 z) f = true) := by rw [Hid, htn.out]; unfold ofB; rw [hfe.out.2.1]; exact decide_eq_true heq
              have hlk : Hid ((G.take (k + 1)).filter (ofB (nm3 z)) = (G.take k).filter (ofB (nm3 z)) ++ [f]) := by
                rw [Hid, htk.out, List.filter_append]
                simp [hob.out]
              have HP : Hid (∀ n v' w2, w2.ownsRow B2 34 3 v' (ln + 1) (ftsC ((G.take k).filter (ofB (nm3 z))) ++ [.int .i64 fid, .string ft, .slice fa fn fc]) → ((wr.drewN n).alloc (.cells #[.int .i64 fid, .string ft, .slice fa fn fc] 34)).grownBy w2 (Value.ownBlock (.slice lo ln lc)) → KeW w w2 b nb v m (.slice (some ⟨q, 0, none⟩) N cap3) last F G z B2 (k + 1) v') := by
                intro n v' w2 ho hg
                have HLn := HL.out.next (below_drawn (Below.refl _ wr) n)
                exact HLn.push hfe.out HWl.out hlk.out ho hg
              have HRo : Hid (∀ n, (wr.drewN n).ownsRow B2 34 3 (.slice lo ln lc) ln (ftsC ((G.take k).filter (ofB (nm3 z))))) := by
                intro n
                have h := (HL.out.next (below_drawn (Below.refl _ wr) n)).want
                rw [← HWl.out] at h
                exact h
              have hsz : B2 ≤ wr.heap.size := HL.out.b2.2
              clear heq HL
              go_wp2_with fail
              go_quiet (fail)
              go_wp2_with fail
              go_quiet (fail)
              go_wp2_with (first
                | (at_builtin; refine wpList_append_own _ rfl _ _ 26 rfl B2 34 i0 (.agg #[.int .i64 0, .string ⟨#[]⟩, .slice none 0 0]) 3 48 Tryd.underlying26 hi hz3 hz4 hz5 rfl (by decide) (.slice lo ln lc) ln (ftsC ((G.take k).filter (ofB (nm3 z)))) rfl ((HRo.out _).alloc _) ⟨wr.heap.size, 0, none⟩ 1 1 [.int .i64 fid, .string ft, .slice fa fn fc] rfl rfl (ft_news (wr.drewN _) _ rfl _ _ _ _) (ftC_one3 _ _ _ _ _) (by unfold maxLen; omega) (by omega) (by simp; omega) ?_; intro v9 w9 hown9 hgrow9 _)
                | go_in)
              have HA2 := HP.out _ v9 w9 hown9 hgrow9
              obtain ⟨lo2, lc2, rfl⟩ := own_slice hown9
              have HA3 : Hid _ := HA2
              clear hown9 hgrow9 HA2 HP HRo
              go_roundw
              case rel => exact ⟨k + 1, lo2, _, lc2, by omega, by go_num, rfl, HA3⟩
              case measure => simp [intOf]; omega
            · have hd : (ft.toList == tn.toList) = false := by rw [beq_ba]; exact decide_eq_false heq
              have hob : Hid (ofB (nm3 z) f = false) := by rw [Hid, htn.out]; unfold ofB; rw [hfe.out.2.1]; exact decide_eq_false heq
              have HA3 : Hid (∀ n, KeW w (wr.drewN n) b nb v m (.slice (some ⟨q, 0, none⟩) N cap3) last F G z B2 (k + 1) (.slice lo ln lc)) := by
                intro n
                have HLn := HL.out.next (below_drawn (Below.refl _ wr) n)
                refine ⟨HLn.kd, HLn.all, HLn.like, ?_, HLn.ap, HLn.b2⟩
                have h := HLn.want
                have e : [f].filter (ofB (nm3 z)) = [] := by simp [hob.out]
                rw [htk.out, List.filter_append, e, List.append_nil]
                exact h
              clear heq HL
              go_wp2_with fail
              go_quiet (fail)
              go_wp2_with fail
              go_quiet (fail)
              go_wp2_with fail
              go_roundw
              case rel => exact ⟨k + 1, lo, _, lc, by omega, by go_num, rfl, HA3.out _⟩
              case measure => simp [intOf]; omega
        · have hki : ¬ (k : Int) < (N : Int) := by omega
          have n0 := names_at HL.out.kd.nm (z := z) (by omega)
          obtain ⟨tn, htn⟩ : ∃ tn, Hid (nm3 z = tn) := ⟨_, rfl⟩
          rw [htn.out] at n0
          have hwl : ln = ((G.take k).filter (ofB (nm3 z))).length := by
            obtain ⟨_, _, e⟩ := own_slice HL.out.want
            injection e
          have hall : G.take k = G := List.take_of_length_le (by rw [HN.out]; omega)
          have HW : Hid (ln = (G.filter (ofB tn)).length ∧ ln ≤ 100 ∧ (F.filter (ofB tn)).map Ft.fc = (G.filter (ofB tn)).map Ft.fc) := by
            have hlen := HL.out.len
            rw [hall] at hwl hlen
            rw [htn.out] at hwl hlen
            exact ⟨hwl, by omega, filter_like F G tn HL.out.like.symm⟩
          have HFt : Hid (∀ w', Below wr.heap.size wr w' → FtsA w' lo (G.filter (ofB tn))) := by
            intro w' hb
            have h1 := HL.out.next hb
            have h2 := h1.want
            rw [← hwl, hall, htn.out] at h2
            have h3 : Rw 34 w' w.heap.size (.slice lo ln lc) (G.filter (ofB tn)) := by
              refine ⟨?_, fun f hf => h1.all.vals f ((List.mem_filter.1 hf).1)⟩
              rw [← HW.out.1]
              exact own_base h2 h1.b2.1
            exact h3.fts
          have HLw : Hid (LW w wr b v m last F ∧ ∀ f ∈ F, f.t.size = 1) := ⟨HL.out.kd.lw, HL.out.kd.one⟩
          have hof := of_any wr w.heap.size b last v m F HL.out.kd.lw.mem HL.out.kd.lw.small tn
          clear HL hwl hall htn
          go_wp2_with fail
          refine hof.mono ?_
          rintro e w5 ⟨v5, G2, rfl, hR5, hE5, hb5⟩
          obtain ⟨ao5, cap5, rfl, _, _⟩ := hR5.slice
          have hG2 : G2.length = ln := by
            have h1 := like_len hE5
            have h2 := like_len HW.out.2.2
            have h3 := HW.out.1
            omega
          rw [hG2] at hR5
          have hlo := lof_any w5 w.heap.size ln cap5 ao5 G2 (hR5.base HLw.out.1.bel.size) (next_trans HLw.out.1.bel hb5).size (by have := HW.out.2.1; omega)
          have HE2 : Hid (G2.map Ft.fc = (G.filter (ofB tn)).map Ft.fc ∧ ∀ g ∈ G2, g.l.length ≤ 50) := by
            refine ⟨hE5.trans HW.out.2.2, fun g hg => ?_⟩
            obtain ⟨f, hf, _, _, h3⟩ := like_mem hE5 hg
            rw [← h3]
            exact (HLw.out.1.mem.good.ok f ((List.mem_filter.1 hf).1)).2.1
          have HB5 : Hid (Below wr.heap.size wr w5) := hb5
          have HG2 : Hid (G2.length = ln) := hG2
          rw [hG2]
          clear hof hR5 hE5 hb5 hG2
          go_wp2_with fail
          refine hlo.mono ?_
          rintro e w6 ⟨ao6, cap6, rfl, hR6, hb6⟩
          have hsm := same_yes w6 ln cap6 lc ao6 lo G2 (G.filter (ofB tn)) hR6.fts (HFt.out _ (next_trans HB5.out hb6)) HG2.out HE2.out.1 HE2.out.2 (by have := HW.out.2.1; omega)
          have HB6 : Hid (Below wr.heap.size wr w6) := next_trans HB5.out hb6
          clear hlo hR6 hb6 HB5 n0
          go_wp2_with fail
          refine hsm.mono ?_
          rintro e w7 ⟨rfl, hb7⟩
          have hon := (HLw.out.1.next (next_trans HB6.out hb7)).of_len ⟨#[110, 111, 110, 101]⟩ 0 (by
            rw [List.filter_eq_nil_iff.2 (fun f hf => by
              have h1 := HLw.out.2 f hf
              unfold ofB
              intro e
              have e := of_decide_eq_true e
              rw [e] at h1
              exact absurd h1 (by decide))]
            rfl)
          clear hsm hb7
          go_wp2_with (go_at_call 22; refine hon.mono ?_; rintro e w8 ⟨ao8, cap8, rfl, H8, _⟩)
          have HB8 : Hid (Below w.heap.size w w8) := H8.bel
          clear H8 hon
          go_ret
          exact ⟨rfl, HB8.out⟩
end Go.Proofs.YtgjnnahflaaagaaDoor
