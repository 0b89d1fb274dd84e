import Derived.Deep.RegionWith
import Derived.Test.YtnhbjhdkpbhioaaGreatDoorG13
import Derived.Test.YtnhbjhdkpbhioaaGreatDoorG24
import Derived.Test.YtnhbjhdkpbhioaaGreatDoorG10
namespace Go.Proofs.YtnhbjhdkpbhioaaGreatDoor
open Go.RowKit
theorem inSN : (Tryz.prog.info? 43).map (fun i => (i.zero, i.size, i.bytes)) = some (some zeroNd, 5, 64) := by kernel_rfl
theorem inSN' : ∃ i, Tryz.prog.info? 43 = some i ∧ i.zero = some zeroNd ∧ i.size = 5 ∧ i.bytes = 64 := by
  obtain ⟨i, h, e⟩ := Option.map_eq_some_iff.1 inSN
  simp only [Prod.mk.injEq] at e
  exact ⟨i, h, e.1, e.2.1, e.2.2⟩
structure SoAt (w wr : World) (k : Int) (a : Nat) (i : Int) (Y : ByteArray) (l : List Nd) (ao : Option Addr) (M cap j : Nat) (cs : List Nc) (v : Value) : Prop where
  bel : Below w.heap.size w wr
  siz : w.heap.size + 3 ≤ wr.heap.size
  c4 : wr.cell? ⟨w.heap.size, 4, none⟩ = some (.slice ao M cap)
  b1 : Box5 wr (w.heap.size + 1) (.int .i64 0) (.int .i64 0) (.int .i64 0) (.string ⟨#[]⟩) (.slice none 0 0)
  b2 : Box5 wr (w.heap.size + 2) (.int .i64 k) (.int .i64 (a : Int)) (.int .i64 i) (.string Y) v
  own : wr.ownsRow (w.heap.size + 3) 43 5 v cs.length (ncsC cs)
  kids : NcsIs wr (offB (w.heap.size + 3) v) cs (l.take j)
set_option maxHeartbeats 8000000 in
set_option maxRecDepth 20000 in
theorem sto_any : ∀ (N : Nat) (x : Nd) (ao : Option Addr) (cap : Nat) (w : World), cntN x ≤ N → cntN x ≤ 100000 → x.l.length ≤ cap → IsNds w anyB ao x.l →
    Calls Tryz.prog 12 #[ndV x ao cap] w fun e w' => (∃ c : Nc, e = .returned (nodeV c) ∧ NcIs w' (geB w.heap.size) c x) ∧ Below w.heap.size w w'
  | 0, x, ao, cap, w, hN, _, _, _ => by have := cntN_pos x; omega
  | N + 1, x, ao, cap, w, hN, hb, hc, hk => by
    have HIH : Hid (∀ (x : Nd) (ao : Option Addr) (cap : Nat) (w : World), cntN x ≤ N → cntN x ≤ 100000 → x.l.length ≤ cap → IsNds w anyB ao x.l →
      Calls Tryz.prog 12 #[ndV x ao cap] w fun e w' => (∃ c : Nc, e = .returned (nodeV c) ∧ NcIs w' (geB w.heap.size) c x) ∧ Below w.heap.size w w') := sto_any N
    obtain ⟨k, a, i, s, l⟩ := x
    simp only at hc hk
    rw [cntN_mk] at hN hb
    unfold ndV
    simp only
    obtain ⟨Y, HY⟩ : ∃ Y, Hid (baL s = Y) := ⟨_, rfl⟩
    rw [HY.out]
    obtain ⟨M, HM⟩ : ∃ M, Hid (l.length = M) := ⟨_, rfl⟩
    rw [HM.out] at hc ⊢
    have HK : Hid (IsNds w anyB ao l) := hk
    have hMb : M ≤ 100000 := by have := cntL_len l; rw [HM.out] at this; omega
    clear hk
    go_enter Tryz.func12, Tryz.ntmps12
    go_wp2
    obtain ⟨W0, hW0⟩ : ∃ W0, ((w.alloc (.cells #[.int .i64 k, .int .i64 (a : Int), .int .i64 i, .string Y, .slice ao M cap] 46)).alloc (.cells #[.int .i64 0, .int .i64 0, .int .i64 0, .string ⟨#[]⟩, .slice none 0 0] 43)).alloc (.cells #[.int .i64 k, .int .i64 (a : Int), .int .i64 i, .string Y, .slice none 0 0] 43) = W0 := ⟨_, rfl⟩
    have HB0 : Hid (Below w.heap.size w W0) := by rw [← hW0]; exact next_trans (next_trans (alloc_below _ _) (alloc_below _ _)) (alloc_below _ _)
    have hs0 : W0.heap.size = w.heap.size + 3 := by rw [← hW0]; simp
    have HI0 : Hid (SoAt w W0 k a i Y l ao M cap 0 [] (.slice none 0 0)) := by
      have hbb := HB0.out
      rw [← hW0] at hbb
      rw [Hid, ← hW0]
      refine ⟨hbb, by simp, alloc_cell (alloc_cell (box0 rfl)), ?_, ?_, World.ownsRow_nil _ _ _ _, trivial⟩
      · have := (Box5.made (w.alloc (.cells #[.int .i64 k, .int .i64 (a : Int), .int .i64 i, .string Y, .slice ao M cap] 46)) 43 (.int .i64 0) (.int .i64 0) (.int .i64 0) (.string ⟨#[]⟩) (.slice none 0 0)).next (alloc_below _ (.cells #[.int .i64 k, .int .i64 (a : Int), .int .i64 i, .string Y, .slice none 0 0] 43))
        rw [World.size_alloc] at this
        exact this
      · have := Box5.made ((w.alloc (.cells #[.int .i64 k, .int .i64 (a : Int), .int .i64 i, .string Y, .slice ao M cap] 46)).alloc (.cells #[.int .i64 0, .int .i64 0, .int .i64 0, .string ⟨#[]⟩, .slice none 0 0] 43)) 43 (.int .i64 k) (.int .i64 (a : Int)) (.int .i64 i) (.string Y) (.slice none 0 0)
        rw [World.size_alloc, World.size_alloc] at this
        exact this
    rw [hW0]
    clear hW0
    go_loopw [4] (fun q wr => ∃ (j : Nat) (cs : List Nc) (v : Value), j ≤ M ∧ q = .int .i64 j ∧ Hid (SoAt w wr k a i Y l ao M cap j cs v)) (fun q _ => M - (intOf q).toNat)
    case atStart => exact ⟨0, [], _, Nat.zero_le _, rfl, HI0⟩
    case round =>
      obtain ⟨j, cs, v, hj, rfl, HI⟩ := hrel
      clear HI0
      have c4 := HI.out.c4
      have hsr := HI.out.siz
      have HBr : Hid (Below w.heap.size w wr) := HI.out.bel
      by_cases hlt : j < M
      · have hli : (j : Int) < (M : Int) := by omega
        have hl0 : (0 : Int) ≤ (j : Int) := by omega
        obtain ⟨y, hy⟩ : ∃ y, l[j]? = some y := ⟨_, List.getElem?_eq_getElem (by rw [HM.out]; exact hlt)⟩
        obtain ⟨b, o, ao', cap', rfl, hA⟩ := (HK.out.next HBr.out).at hy
        have hA0 := HK.out.at hy
        have hbw : b < w.heap.size := by
          obtain ⟨b', o', _, _, e, hA'⟩ := hA0
          have e1 := Option.some.inj e
          injection e1 with e2
          subst e2
          exact World.block_lt_of_cell? w ⟨b, _, none⟩ hA'.c0
        have HTk : Hid (l.take (j + 1) = l.take j ++ [y]) := take_nd hy
        have hcy := cntL_mem l y (List.mem_of_getElem? hy)
        have HCl : Hid (∀ w', Below wr.heap.size wr w' → Calls Tryz.prog 12 #[ndV y ao' cap'] w' fun e w2 => (∃ c : Nc, e = .returned (nodeV c) ∧ NcIs w2 (geB w'.heap.size) c y) ∧ Below w'.heap.size w' w2) :=
          fun w' hb => HIH.out y ao' cap' w' (by omega) (by omega) hA.hc (hA.kids.next hb)
        obtain ⟨d0, d1, d2, d3, d4, _, _⟩ := hA
        obtain ⟨g0, g1, g2, g3, g4, gf⟩ := HI.out.b2.cells
        obtain ⟨vao, vn, vcap, hv⟩ : ∃ vao vn vcap, v = .slice vao vn vcap := by
          rcases HI.out.own.2 with ⟨e, _⟩ | ⟨gg, cap, cur, e, _⟩
          · exact ⟨_, _, _, e⟩
          · exact ⟨_, _, _, e⟩
        subst hv
        unfold ndV at HCl
        obtain ⟨yk, ya, yi, ys, yl⟩ := y
        simp only at d0 d1 d2 d3 d4 HCl
        obtain ⟨Z, HZ⟩ : ∃ Z, Hid (baL ys = Z) := ⟨_, rfl⟩
        obtain ⟨P, HP⟩ : ∃ P, Hid (yl.length = P) := ⟨_, rfl⟩
        rw [HZ.out] at d3 HCl
        rw [HP.out] at d4 HCl
        obtain ⟨A1, HA1⟩ : ∃ A1 : Int, Hid ((ya : Int) = A1) := ⟨_, rfl⟩
        rw [HA1.out] at d1 HCl
        obtain ⟨i0, hi, hz0, hz1', hz2'⟩ := inSN'
        have hcl : cs.length ≤ 100000 := by have h1 := HI.out.kids.len; have h2 : (l.take j).length ≤ l.length := by simp; omega
                                            rw [HM.out] at h2; omega
        have s0 : Below wr.heap.size wr wr.drew := (Below.refl _ _).drew
        have s3 : Below (w.heap.size + 3) wr wr.drew := (Below.refl _ _).drew
        have gfz := gf 4
        have HOw : Hid (wr.ownsRow (w.heap.size + 3) 43 5 (.slice vao vn vcap) cs.length (ncsC cs)) := HI.out.own
        have hob : ∀ k, (Value.slice vao vn vcap).ownBlock = some k → w.heap.size + 3 ≤ k ∧ k < wr.heap.size := fun k hk => HOw.out.lt k hk
        have HOb : Hid (∀ k, (Value.slice vao vn vcap).ownBlock = some k → w.heap.size + 3 ≤ k ∧ k < wr.heap.size) := hob
        clear hy hA0 g0 g1 g2 g3 gf hob
        go_wp2_with fail
        go_region_law (first
            | (go_simp; go_at_call 12; refine (HCl.out _ s0).mono ?_; rintro e w2 ⟨⟨⟨ck, ca, ci, css, cao, cn, ccap⟩, rfl, hcc⟩, hb2⟩; have hb3 := next_trans s0 hb2; have hz3 : wr.heap.size ≤ w2.heap.size := hb3.size; have hx9 : w.heap.size + 2 < w2.heap.size := (by omega); have x4 := keep_cell hb3 g4; have xf := keep_froz hb3 g4 gfz; unfold nodeV; simp only)
            | ((refine step_append_lies _ (by rfl) _ _ _ (by rfl) (w.heap.size + 3) 43 i0 zeroNd 5 64 Tryz.underlying41 hi hz0 hz1' hz2' rfl (by decide) (.slice vao vn vcap) cs.length (ncsC cs) (by rfl) ((own_next HOw.out hb3).alloc _) ⟨w2.heap.size, 0, none⟩ 1 1 [.int .i64 ck, .int .i64 (ca : Int), .int .i64 ci, .string (baL css), .slice cao cn ccap] (by rfl) (by rfl) (World.news_of_block (cs := #[.int .i64 ck, .int .i64 (ca : Int), .int .i64 ci, .string (baL css), .slice cao cn ccap]) (t := 43) (fr := (0, 0)) (heap_alloc_new w2 _)) (by simp [Value.oneCell']) (by decide) (by unfold maxLen; omega) (by omega) (by simp; omega) (w2.heap.size + 1) (by simp) ?_; intro gk gcap w3 hown3 hgrow hat3 hlt3; have y4 := hgrow.cell (alloc_cell x4) (fun e => by have h9 : w.heap.size + 3 ≤ w.heap.size + 2 := (HOb.out _ e.symm).1; omega); have yf : w3.frozen? ⟨w.heap.size + 2, 4, none⟩ = false := (hgrow.frozen_far _ (by simp; omega) (fun e => by have h9 : w.heap.size + 3 ≤ w.heap.size + 2 := (HOb.out _ e.symm).1; omega)).trans (alloc_froz x4 xf))))
        all_goals
          have HO3 : Hid (w3.ownsRow (w.heap.size + 3) 43 5 (.slice (some ⟨gk, 0, none⟩) (cs.length + 1) gcap) (cs ++ [(⟨ck, ca, ci, css, cao, cn, ccap⟩ : Nc)]).length (ncsC (cs ++ [(⟨ck, ca, ci, css, cao, cn, ccap⟩ : Nc)]))) := by
            rw [← ncs_snoc, Hid, List.length_append]; exact hown3
          have HC : NcIs w2 (offB (w.heap.size + 3) (.slice vao vn vcap)) ⟨ck, ca, ci, css, cao, cn, ccap⟩ ⟨yk, ya, yi, ys, yl⟩ := hcc.keep fun k hk _ => ⟨rfl, by have hk' : wr.heap.size ≤ k := hk; omega, fun e => by have := (HOb.out k e).2; have hk' : wr.heap.size ≤ k := hk; omega⟩
          have HK3 : Hid (NcsIs w3 (offB (w.heap.size + 3) (.slice (some ⟨gk, 0, none⟩) (cs.length + 1) gcap)) (cs ++ [(⟨ck, ca, ci, css, cao, cn, ccap⟩ : Nc)]) (l.take (j + 1))) := by
            rw [HTk.out]
            exact ncs_grow ((NcsIs.snoc HC (HI.out.kids.next hb3)).next (alloc_below _ _)) hgrow hat3 (by simp)
          have hgb : ∀ k, k < w.heap.size + 3 → w3.heap[k]? = wr.heap[k]? := fun k hk => by
            rw [hgrow.block k (by simp; omega) (fun e => by have := (HOb.out k e.symm).1; omega), Below.heap_alloc _ _ _ (by omega), hb3.block k (by omega)]
          have HN : Hid (SoAt w (w3.setCell ⟨w.heap.size + 2, 4, none⟩ (.slice (some ⟨gk, 0, none⟩) (cs.length + 1) gcap)) k a i Y l (some ⟨b, o, none⟩) M cap (j + 1) (cs ++ [(⟨ck, ca, ci, css, cao, cn, ccap⟩ : Nc)]) (.slice (some ⟨gk, 0, none⟩) (cs.length + 1) gcap)) := by
            have h := HI.out
            have hs : ∀ k, k < w.heap.size + 2 → (w3.setCell ⟨w.heap.size + 2, 4, none⟩ (.slice (some ⟨gk, 0, none⟩) (cs.length + 1) gcap)).heap[k]? = wr.heap[k]? := fun k hk => by
              rw [Below.heap_setCell _ _ _ _ (by show k ≠ w.heap.size + 2; omega)]; exact hgb k (by omega)
            have hg3 := hgrow.size
            have hss : w.heap.size + 3 ≤ w3.heap.size := by simp at hg3; omega
            refine ⟨⟨?_, ?_, ?_, ?_, fun k hk => (hs k (by omega)).trans (h.bel.block k hk)⟩, ?_, ?_, h.b1.keep (hs _ (by omega)), (h.b2.keep (hgb _ (by omega))).set4 _, ownsRow_setCell_below HO3.out (by show w.heap.size + 2 < w.heap.size + 3; omega) _, ?_⟩
            · exact hgrow.os.trans (hb3.os.trans h.bel.os)
            · exact hgrow.tape.trans (hb3.tape.trans h.bel.tape)
            · exact hgrow.output.trans (hb3.output.trans h.bel.output)
            · simp only [World.setCell, Array.size_modify]; omega
            · simp only [World.setCell, Array.size_modify]; exact hss
            · rw [World.cell?_of_block (a := ⟨w.heap.size, 4, none⟩) (hs w.heap.size (by omega))]; exact c4
            · exact HK3.out.keep fun k hk _ => ⟨Below.heap_setCell _ _ _ _ (by show k ≠ w.heap.size + 2; have := hk.1; omega), hk⟩
          clear hown3 hgrow hat3 hcc hgb HC hb2 hb3 x4 xf y4 yf c4 d0 d1 d2 d3 d4 g4 gfz
          go_wp2
          go_roundw
          case rel => exact ⟨j + 1, cs ++ [(⟨ck, ca, ci, css, cao, cn, ccap⟩ : Nc)], _, by omega, by go_num, HN⟩
          case measure => simp [intOf]; omega
      · have hli : ¬ (j : Int) < (M : Int) := by omega
        have hfull : l.take j = l := List.take_of_length_le (by rw [HM.out]; omega)
        obtain ⟨vao, vcap, hv, hvc, hnd⟩ := own_nds (S := geB (w.heap.size + 3)) HI.out.own (HI.out.kids.keep fun k hk _ => ⟨rfl, hk.1⟩) (fun k hk _ => hk)
        subst hv
        rw [hfull] at hnd hvc
        obtain ⟨e0, e1, e2, e3, e4, ef⟩ := HI.out.b1.cells
        obtain ⟨g0, g1, g2, g3, g4, gf⟩ := HI.out.b2.cells
        rw [hfull, HM.out] at g4
        rw [HM.out] at hvc
        have HND : Hid (IsNds wr (geB (w.heap.size + 3)) vao l) := hnd
        clear hnd HI hfull
        go_wp2
        refine bodyPost_ret (v := .agg #[.int .i64 (k), .int .i64 ((a : Int)), .int .i64 (i), .string (Y), .slice vao M vcap]) (by simp [results, Tryz.results12, go_sem, e0, e1, e2, e3, e4]) rfl ⟨⟨⟨k, a, i, s, vao, M, vcap⟩, by rw [← HY.out]; rfl, rfl, rfl, rfl, rfl, HM.out.symm, hvc, ?_⟩, ?_⟩
        · exact HND.out.keep fun k hk _ => ⟨set5_block _ _ _ _ _ (by unfold geB at hk; omega), by unfold geB at hk ⊢; omega⟩
        · exact ((((HBr.out.setCell (p := ⟨w.heap.size + 1, 0, none⟩) (by show w.heap.size ≤ w.heap.size + 1; omega) _).setCell (p := ⟨w.heap.size + 1, 1, none⟩) (by show w.heap.size ≤ w.heap.size + 1; omega) _).setCell (p := ⟨w.heap.size + 1, 2, none⟩) (by show w.heap.size ≤ w.heap.size + 1; omega) _).setCell (p := ⟨w.heap.size + 1, 3, none⟩) (by show w.heap.size ≤ w.heap.size + 1; omega) _).setCell (p := ⟨w.heap.size + 1, 4, none⟩) (by show w.heap.size ≤ w.heap.size + 1; omega) _
end Go.Proofs.YtnhbjhdkpbhioaaGreatDoor
namespace Go.Proofs.YtnhbjhdkpbhioaaGreatDoor
open Go.RowKit
theorem lit_nds {w : World} {b : Nat} {S : Nat → Prop} {L : List Nc} {l : List Nd} (hx : Bx w b (ncsC L).toArray) (hS : S b) (hL : NcsIs w S L l) : IsNds w S (some ⟨b, 0, none⟩) l :=
  ⟨b, 0, fun _ => rfl, ncs_at hS L l 0 hL fun j v hj => by rw [Nat.zero_add, hx.cell j, List.getElem?_toArray]; exact hj⟩
theorem nc_sym (w : World) (S : Nat → Prop) (s : List UInt8) : NcIs w S ⟨2, 0, 0, s, none, 0, 0⟩ (tsym s) := NcIs.leaf w S 2 0 0 s
structure SnW (w wr : World) (n : ByteArray) (k i : Int) (s : ByteArray) : Prop where
  bel : Below w.heap.size w wr
  x : Bx wr w.heap.size #[.string n, .int .i64 k, .int .i64 i, .string s]
  r : Bx wr (w.heap.size + 1) #[.int .i64 0, .int .i64 0, .int .i64 0, .string ⟨#[]⟩, .slice none 0 0]
theorem SnW.next {w wr w' : World} {n : ByteArray} {k i : Int} {s : ByteArray} (h : SnW w wr n k i s) (hb : Below wr.heap.size wr w') : SnW w w' n k i s := ⟨next_trans h.bel hb, h.x.next hb, h.r.next hb⟩
theorem SnW.cells {w wr : World} {n : ByteArray} {k i : Int} {s : ByteArray} (h : SnW w wr n k i s) : wr.cell? ⟨w.heap.size, 0, none⟩ = some (.string n) ∧ wr.cell? ⟨w.heap.size, 1, none⟩ = some (.int .i64 k) ∧ wr.cell? ⟨w.heap.size, 2, none⟩ = some (.int .i64 i) ∧ wr.cell? ⟨w.heap.size, 3, none⟩ = some (.string s) ∧
    wr.cell? ⟨w.heap.size + 1, 0, none⟩ = some (.int .i64 0) ∧ wr.cell? ⟨w.heap.size + 1, 1, none⟩ = some (.int .i64 0) ∧ wr.cell? ⟨w.heap.size + 1, 2, none⟩ = some (.int .i64 0) ∧ wr.cell? ⟨w.heap.size + 1, 3, none⟩ = some (.string ⟨#[]⟩) ∧ wr.cell? ⟨w.heap.size + 1, 4, none⟩ = some (.slice none 0 0) ∧
    (∀ j, wr.frozen? ⟨w.heap.size + 1, j, none⟩ = false) ∧ w.heap.size + 1 < wr.heap.size :=
  ⟨h.x.cell 0, h.x.cell 1, h.x.cell 2, h.x.cell 3, h.r.cell 0, h.r.cell 1, h.r.cell 2, h.r.cell 3, h.r.cell 4, h.r.froz, h.r.lt⟩
def setN5 (w : World) (b : Nat) (v0 v1 v2 v3 v4 : Value) : World := ((((w.setCell ⟨b, 0, none⟩ v0).setCell ⟨b, 1, none⟩ v1).setCell ⟨b, 2, none⟩ v2).setCell ⟨b, 3, none⟩ v3).setCell ⟨b, 4, none⟩ v4
theorem setN5_block {w : World} {b k : Nat} (v0 v1 v2 v3 v4 : Value) (h : k ≠ b) : (setN5 w b v0 v1 v2 v3 v4).heap[k]? = w.heap[k]? := by
  unfold setN5
  rw [Below.heap_setCell _ _ _ _ h, Below.heap_setCell _ _ _ _ h, Below.heap_setCell _ _ _ _ h, Below.heap_setCell _ _ _ _ h, Below.heap_setCell _ _ _ _ h]
theorem setN5_below {w w1 : World} {B b : Nat} (v0 v1 v2 v3 v4 : Value) (h : Below B w w1) (hb : B ≤ b) : Below B w (setN5 w1 b v0 v1 v2 v3 v4) := by
  unfold setN5
  exact set_bel (set_bel (set_bel (set_bel (set_bel h hb) hb) hb) hb) hb
def MkR (w w' : World) (e : Ending) (x : Nd) : Prop := ∃ c : Nc, e = .returned (nodeV c) ∧ NcIs w' (geB w.heap.size) c x
theorem mk_done {w w5 : World} {b m : Nat} {c : Nc} {x : Nd} (h : NcIs w5 (geB m) c x) (hb : w.heap.size ≤ b) (hm : b < m) (v0 v1 v2 v3 v4 : Value) (V : Value) (hV : V = nodeV c) (hB : Below w.heap.size w w5) : MkR w (setN5 w5 b v0 v1 v2 v3 v4) (.returned V) x ∧ Below w.heap.size w (setN5 w5 b v0 v1 v2 v3 v4) :=
  ⟨⟨c, by rw [hV], h.keep fun k hk _ => ⟨setN5_block _ _ _ _ _ (by unfold geB at hk; omega), by unfold geB at hk ⊢; omega⟩⟩, setN5_below _ _ _ _ _ hB hb⟩
end Go.Proofs.YtnhbjhdkpbhioaaGreatDoor
namespace Go.Proofs.YtnhbjhdkpbhioaaGreatDoor
open Go.RowKit
structure TnW (w wr : World) (tn : ByteArray) (ao : Option Addr) (M cap : Nat) (v : Value) (cs : List Nc) (xs : List Nd) : Prop where
  bel : Below w.heap.size w wr
  x : Bx wr w.heap.size #[.string tn, .slice ao M cap]
  r : Bx wr (w.heap.size + 1) #[.int .i64 0, .int .i64 0, .int .i64 0, .string ⟨#[]⟩, .slice none 0 0]
  own : wr.ownsRow (w.heap.size + 2) 43 5 v cs.length (ncsC cs)
  kids : NcsIs wr (offB (w.heap.size + 2) v) cs xs
theorem TnW.next {w wr w' : World} {tn : ByteArray} {ao : Option Addr} {M cap : Nat} {v : Value} {cs : List Nc} {xs : List Nd} (h : TnW w wr tn ao M cap v cs xs) (hb : Below wr.heap.size wr w') : TnW w w' tn ao M cap v cs xs :=
  ⟨next_trans h.bel hb, h.x.next hb, h.r.next hb, own_next h.own hb, h.kids.next hb⟩
structure TnA (w wr : World) (tn : ByteArray) (ao : Option Addr) (M cap : Nat) : Prop where
  bel : Below w.heap.size w wr
  x : Bx wr w.heap.size #[.string tn, .slice ao M cap]
  r : Bx wr (w.heap.size + 1) #[.int .i64 0, .int .i64 0, .int .i64 0, .string ⟨#[]⟩, .slice none 0 0]
theorem TnA.next {w wr w' : World} {tn : ByteArray} {ao : Option Addr} {M cap : Nat} (h : TnA w wr tn ao M cap) (hb : Below wr.heap.size wr w') : TnA w w' tn ao M cap := ⟨next_trans h.bel hb, h.x.next hb, h.r.next hb⟩
end Go.Proofs.YtnhbjhdkpbhioaaGreatDoor
