import Derived.Deep.RegionHeld3
import Derived.Deep.QuietTactic
import Derived.BigQuiet
import Derived.Deep.RegionLaw
import Derived.Test.YtnhbjhdkpbhioaaGreatDoorG9
import Derived.Test.YtnhbjhdkpbhioaaGreatDoorG10
import Derived.Test.YtnhbjhdkpbhioaaGreatDoorG12
namespace Go.Proofs.YtnhbjhdkpbhioaaGreatDoor
open Go.RowKit
def ndV (x : Nd) (ao : Option Addr) (cap : Nat) : Value := .agg #[.int .i64 (x.k), .int .i64 ((x.a : Int)), .int .i64 (x.i), .string (baL x.s), .slice ao x.l.length cap]
theorem take_nd {L : List Nd} {k : Nat} {t : Nd} (h : L[k]? = some t) : L.take (k + 1) = L.take k ++ [t] := by
  rw [List.take_add_one, h]; rfl
set_option maxHeartbeats 8000000 in
set_option maxRecDepth 20000 in
theorem rsame_any5 : ∀ (N : Nat) (x x' : Nd) (ao ao2 : Option Addr) (cap cap2 : Nat) (w : World), cntN x ≤ N → cntN x ≤ 100000 → x.l.length ≤ cap → x'.l.length ≤ cap2 → simN x x' → IsNds w anyB ao x.l → IsNds w anyB ao2 x'.l →
    Calls Tryz.prog 19 #[ndV x ao cap, ndV x' ao2 cap2] w fun e w' => e = .returned (.bool true) ∧ Below w.heap.size w w'
  | 0, x, x', ao, ao2, cap, cap2, w, hN, _, _, _, _, _, _ => by have := cntN_pos x; omega
  | N + 1, x, x', ao, ao2, cap, cap2, w, hN, hb, hc, hc2, hr, hk, hk2 => by
    have HIH : Hid (∀ (x x' : Nd) (ao ao2 : Option Addr) (cap cap2 : Nat) (w : World), cntN x ≤ N → cntN x ≤ 100000 → x.l.length ≤ cap → x'.l.length ≤ cap2 → simN x x' → IsNds w anyB ao x.l → IsNds w anyB ao2 x'.l →
      Calls Tryz.prog 19 #[ndV x ao cap, ndV x' ao2 cap2] w fun e w' => e = .returned (.bool true) ∧ Below w.heap.size w w') := rsame_any5 N
    obtain ⟨k, a, i, s, l⟩ := x
    obtain ⟨k', a', i', s', l'⟩ := x'
    simp only at hc hc2 hk hk2
    rw [cntN_mk] at hN hb
    obtain ⟨rfl, rfl, rfl, hlen, hml⟩ := sim_parts hr
    have hkids : ∀ (j : Nat) y y', l[j]? = some y → l'[j]? = some y' → simN y y' := fun j y y' h1 h2 => sim_at hml h1 h2
    clear hml hr
    unfold ndV
    simp only
    obtain ⟨Y, HY⟩ : ∃ Y, Hid (baL s = Y) := ⟨_, rfl⟩
    rw [HY.out]
    obtain ⟨M, HM⟩ : ∃ M, Hid (l.length = M) := ⟨_, rfl⟩
    have HM2 : Hid (l'.length = M) := by rw [Hid, ← hlen]; exact HM
    rw [HM.out] at hc ⊢
    rw [HM2.out] at hc2 ⊢
    have HK : Hid (IsNds w anyB ao l) := hk
    have HK2 : Hid (IsNds w anyB ao2 l') := hk2
    have HRl : Hid (∀ (j : Nat) y y', l[j]? = some y → l'[j]? = some y' → simN y y') := hkids
    have hMb : M ≤ 100000 := by have := cntL_len l; rw [HM.out] at this; omega
    clear hk hk2 hkids hlen
    go_enter Tryz.func19, Tryz.ntmps19
    go_wp2
    obtain ⟨W0, hW0⟩ : ∃ W0, (w.alloc (.cells #[.int .i64 k, .int .i64 (a : Int), .int .i64 i, .string Y, .slice ao M cap] 46)).alloc (.cells #[.int .i64 k, .int .i64 (a' : Int), .int .i64 i, .string Y, .slice ao2 M cap2] 46) = W0 := ⟨_, rfl⟩
    have HB0 : Hid (Below w.heap.size w W0) := by rw [← hW0]; exact next_trans (alloc_below _ _) (alloc_below _ _)
    have HC0 : Hid (W0.cell? ⟨w.heap.size, 4, none⟩ = some (.slice ao M cap)) := by rw [← hW0]; exact alloc_cell (box0 rfl)
    have HC1 : Hid (W0.cell? ⟨w.heap.size + 1, 4, none⟩ = some (.slice ao2 M cap2)) := by rw [← hW0]; exact box1 rfl
    rw [hW0]
    clear hW0
    go_loopw [5] (fun q wr => ∃ j : Nat, j ≤ M ∧ q = .int .i64 j ∧ Hid (Below W0.heap.size W0 wr)) (fun q _ => M - (intOf q).toNat)
    case atStart => exact ⟨0, Nat.zero_le _, rfl, Below.refl _ _⟩
    case round =>
      obtain ⟨j, hj, rfl, HB⟩ := hrel
      have c4 := keep_cell HB.out HC0.out
      have HBr : Hid (Below w.heap.size w wr) := next_trans HB0.out HB.out
      by_cases hlt : j < M
      · have hli : (j : Int) < (M : Int) := by omega
        have hl0 : (0 : Int) ≤ (j : Int) := by omega
        have c5 := keep_cell HB.out HC1.out
        obtain ⟨y, hy⟩ : ∃ y, l[j]? = some y := ⟨_, List.getElem?_eq_getElem (by rw [HM.out]; exact hlt)⟩
        obtain ⟨y', hy'⟩ : ∃ y', l'[j]? = some y' := ⟨_, List.getElem?_eq_getElem (by rw [HM2.out]; exact hlt)⟩
        obtain ⟨b, o, ao', cap', rfl, hA⟩ := (HK.out.next HBr.out).at hy
        obtain ⟨b2, o2, ao2', cap2', rfl, hA2⟩ := (HK2.out.next HBr.out).at hy'
        have hcy := cntL_mem l y (List.mem_of_getElem? hy)
        have hry := HRl.out j y y' hy hy'
        have HCl : Hid (∀ w', Below wr.heap.size wr w' → Calls Tryz.prog 19 #[ndV y ao' cap', ndV y' ao2' cap2'] w' fun e w2 => e = .returned (.bool true) ∧ Below w'.heap.size w' w2) :=
          fun w' hb => HIH.out y y' ao' ao2' cap' cap2' w' (by omega) (by omega) hA.hc hA2.hc hry (hA.kids.next hb) (hA2.kids.next hb)
        obtain ⟨d0, d1, d2, d3, d4, _, _⟩ := hA
        obtain ⟨g0, g1, g2, g3, g4, _, _⟩ := hA2
        unfold ndV at HCl
        obtain ⟨yk, ya, yi, ys, yl⟩ := y
        obtain ⟨zk, za, zi, zs, zl⟩ := y'
        simp only at d0 d1 d2 d3 d4 g0 g1 g2 g3 g4 HCl
        obtain ⟨Z, HZ⟩ : ∃ Z, Hid (baL ys = Z) := ⟨_, rfl⟩
        obtain ⟨P, HP⟩ : ∃ P, Hid (yl.length = P) := ⟨_, rfl⟩
        obtain ⟨Z2, HZ2⟩ : ∃ Z, Hid (baL zs = Z) := ⟨_, rfl⟩
        obtain ⟨P2, HP2⟩ : ∃ P, Hid (zl.length = P) := ⟨_, rfl⟩
        rw [HZ.out] at d3 HCl
        rw [HP.out] at d4 HCl
        rw [HZ2.out] at g3 HCl
        rw [HP2.out] at g4 HCl
        obtain ⟨A1, HA1⟩ : ∃ A1 : Int, Hid ((ya : Int) = A1) := ⟨_, rfl⟩
        obtain ⟨A2, HA2⟩ : ∃ A2 : Int, Hid ((za : Int) = A2) := ⟨_, rfl⟩
        rw [HA1.out] at d1 HCl
        rw [HA2.out] at g1 HCl
        clear hy hy' hry
        have s0 : Below wr.heap.size wr wr.drew := (Below.refl _ _).drew
        have s1 : wr.heap.size ≤ wr.drew.heap.size := s0.size
        go_wp2_with fail
        go_region_held3 (fun w' => w'.cell? ⟨w.heap.size, 4, none⟩ = some (.slice (some ⟨b, o, none⟩) M cap) ∧ w'.cell? ⟨w.heap.size + 1, 4, none⟩ = some (.slice (some ⟨b2, o2, none⟩) M cap2) ∧ w'.cell? ⟨b, o + j * 5, none⟩ = some (.int .i64 yk) ∧ w'.cell? ⟨b, o + j * 5 + 1, none⟩ = some (.int .i64 A1) ∧ w'.cell? ⟨b, o + j * 5 + 2, none⟩ = some (.int .i64 yi) ∧ w'.cell? ⟨b, o + j * 5 + 3, none⟩ = some (.string Z) ∧ w'.cell? ⟨b, o + j * 5 + 4, none⟩ = some (.slice ao' P cap') ∧ w'.cell? ⟨b2, o2 + j * 5, none⟩ = some (.int .i64 zk) ∧ w'.cell? ⟨b2, o2 + j * 5 + 1, none⟩ = some (.int .i64 A2) ∧ w'.cell? ⟨b2, o2 + j * 5 + 2, none⟩ = some (.int .i64 zi) ∧ w'.cell? ⟨b2, o2 + j * 5 + 3, none⟩ = some (.string Z2) ∧ w'.cell? ⟨b2, o2 + j * 5 + 4, none⟩ = some (.slice ao2' P2 cap2') ∧ Below wr.heap.size wr w' ∧ wr.heap.size ≤ w'.heap.size)
          (((try dsimp only); go_split_ands; refine ⟨?_, ?_, ?_, ?_, ?_, ?_, ?_, ?_, ?_, ?_, ?_, ?_, ?_, ?_⟩ <;> first | assumption | exact keep_cell (by assumption) (by assumption) | exact below_next (by assumption) (by assumption) (by assumption) | exact le_next (by assumption) (by assumption)))
          (first
            | (go_at_call 19; refine (HCl.out _ (by assumption)).mono ?_; rintro e w' ⟨rfl, hb⟩))
        all_goals
          go_split_ands
          have HBn : Hid (Below W0.heap.size W0 w') := HB.out.trans (Below.mono (by assumption) HB.out.size)
          go_wp2
          go_roundw
          case rel => exact ⟨j + 1, by omega, by go_num, HBn⟩
          case measure => simp [intOf]; omega
      · have hli : ¬ (j : Int) < (M : Int) := by omega
        go_wp2
        go_ret
        exact ⟨rfl, HBr.out⟩
end Go.Proofs.YtnhbjhdkpbhioaaGreatDoor
namespace Go.Proofs.YtnhbjhdkpbhioaaGreatDoor
open Go.RowKit
theorem alloc_froz {w : World} {p : Addr} {v : Value} {b : Bool} {o : Obj} (h : w.cell? p = some v) (hf : w.frozen? p = b) : (w.alloc o).frozen? p = b := keep_froz (alloc_below _ _) h hf
structure OfAt (w wr : World) (k : Int) (a : Nat) (i : Int) (Y : ByteArray) (l : List Nd) (ao : Option Addr) (M cap j : Nat) (cs : List Nc) (v : Value) : Prop where
  bel : Below w.heap.size w wr
  siz : w.heap.size + 3 ≤ wr.heap.size
  c4 : wr.cell? ⟨w.heap.size, 4, none⟩ = some (.slice ao M cap)
  b1 : Box5 wr (w.heap.size + 1) (.int .i64 0) (.int .i64 0) (.int .i64 0) (.string ⟨#[]⟩) (.slice none 0 0)
  b2 : Box5 wr (w.heap.size + 2) (.int .i64 k) (.int .i64 (a : Int)) (.int .i64 i) (.string Y) v
  own : wr.ownsRow (w.heap.size + 3) 46 5 v cs.length (ncsC cs)
  kids : NcsIs wr (offB (w.heap.size + 3) v) cs (l.take j)
set_option maxHeartbeats 8000000 in
set_option maxRecDepth 20000 in
theorem of_any : ∀ (N : Nat) (x : Nd) (ao : Option Addr) (cap : Nat) (w : World), cntN x ≤ N → cntN x ≤ 100000 → x.l.length ≤ cap → IsNds w anyB ao x.l →
    Calls Tryz.prog 20 #[ndV x ao cap] w fun e w' => (∃ c : Nc, e = .returned (nodeV c) ∧ NcIs w' (geB w.heap.size) c x) ∧ Below w.heap.size w w'
  | 0, x, ao, cap, w, hN, _, _, _ => by have := cntN_pos x; omega
  | N + 1, x, ao, cap, w, hN, hb, hc, hk => by
    have HIH : Hid (∀ (x : Nd) (ao : Option Addr) (cap : Nat) (w : World), cntN x ≤ N → cntN x ≤ 100000 → x.l.length ≤ cap → IsNds w anyB ao x.l →
      Calls Tryz.prog 20 #[ndV x ao cap] w fun e w' => (∃ c : Nc, e = .returned (nodeV c) ∧ NcIs w' (geB w.heap.size) c x) ∧ Below w.heap.size w w') := of_any N
    obtain ⟨k, a, i, s, l⟩ := x
    simp only at hc hk
    rw [cntN_mk] at hN hb
    unfold ndV
    simp only
    obtain ⟨Y, HY⟩ : ∃ Y, Hid (baL s = Y) := ⟨_, rfl⟩
    rw [HY.out]
    obtain ⟨M, HM⟩ : ∃ M, Hid (l.length = M) := ⟨_, rfl⟩
    rw [HM.out] at hc ⊢
    have HK : Hid (IsNds w anyB ao l) := hk
    have hMb : M ≤ 100000 := by have := cntL_len l; rw [HM.out] at this; omega
    clear hk
    go_enter Tryz.func20, Tryz.ntmps20
    go_wp2
    obtain ⟨W0, hW0⟩ : ∃ W0, ((w.alloc (.cells #[.int .i64 k, .int .i64 (a : Int), .int .i64 i, .string Y, .slice ao M cap] 43)).alloc (.cells #[.int .i64 0, .int .i64 0, .int .i64 0, .string ⟨#[]⟩, .slice none 0 0] 46)).alloc (.cells #[.int .i64 k, .int .i64 (a : Int), .int .i64 i, .string Y, .slice none 0 0] 46) = W0 := ⟨_, rfl⟩
    have HB0 : Hid (Below w.heap.size w W0) := by rw [← hW0]; exact next_trans (next_trans (alloc_below _ _) (alloc_below _ _)) (alloc_below _ _)
    have hs0 : W0.heap.size = w.heap.size + 3 := by rw [← hW0]; simp
    have HI0 : Hid (OfAt w W0 k a i Y l ao M cap 0 [] (.slice none 0 0)) := by
      have hbb := HB0.out
      rw [← hW0] at hbb
      rw [Hid, ← hW0]
      refine ⟨hbb, by simp, alloc_cell (alloc_cell (box0 rfl)), ?_, ?_, World.ownsRow_nil _ _ _ _, trivial⟩
      · have := (Box5.made (w.alloc (.cells #[.int .i64 k, .int .i64 (a : Int), .int .i64 i, .string Y, .slice ao M cap] 43)) 46 (.int .i64 0) (.int .i64 0) (.int .i64 0) (.string ⟨#[]⟩) (.slice none 0 0)).next (alloc_below _ (.cells #[.int .i64 k, .int .i64 (a : Int), .int .i64 i, .string Y, .slice none 0 0] 46))
        rw [World.size_alloc] at this
        exact this
      · have := Box5.made ((w.alloc (.cells #[.int .i64 k, .int .i64 (a : Int), .int .i64 i, .string Y, .slice ao M cap] 43)).alloc (.cells #[.int .i64 0, .int .i64 0, .int .i64 0, .string ⟨#[]⟩, .slice none 0 0] 46)) 46 (.int .i64 k) (.int .i64 (a : Int)) (.int .i64 i) (.string Y) (.slice none 0 0)
        rw [World.size_alloc, World.size_alloc] at this
        exact this
    rw [hW0]
    clear hW0
    go_loopw [4] (fun q wr => ∃ (j : Nat) (cs : List Nc) (v : Value), j ≤ M ∧ q = .int .i64 j ∧ Hid (OfAt w wr k a i Y l ao M cap j cs v)) (fun q _ => M - (intOf q).toNat)
    case atStart => exact ⟨0, [], _, Nat.zero_le _, rfl, HI0⟩
    case round =>
      obtain ⟨j, cs, v, hj, rfl, HI⟩ := hrel
      clear HI0
      have c4 := HI.out.c4
      have hsr := HI.out.siz
      have HBr : Hid (Below w.heap.size w wr) := HI.out.bel
      by_cases hlt : j < M
      · have hli : (j : Int) < (M : Int) := by omega
        have hl0 : (0 : Int) ≤ (j : Int) := by omega
        obtain ⟨y, hy⟩ : ∃ y, l[j]? = some y := ⟨_, List.getElem?_eq_getElem (by rw [HM.out]; exact hlt)⟩
        obtain ⟨b, o, ao', cap', rfl, hA⟩ := (HK.out.next HBr.out).at hy
        have hA0 := HK.out.at hy
        have hbw : b < w.heap.size := by
          obtain ⟨b', o', _, _, e, hA'⟩ := hA0
          have e1 := Option.some.inj e
          injection e1 with e2
          subst e2
          exact World.block_lt_of_cell? w ⟨b, _, none⟩ hA'.c0
        have HTk : Hid (l.take (j + 1) = l.take j ++ [y]) := take_nd hy
        have hcy := cntL_mem l y (List.mem_of_getElem? hy)
        have HCl : Hid (∀ w', Below wr.heap.size wr w' → Calls Tryz.prog 20 #[ndV y ao' cap'] w' fun e w2 => (∃ c : Nc, e = .returned (nodeV c) ∧ NcIs w2 (geB w'.heap.size) c y) ∧ Below w'.heap.size w' w2) :=
          fun w' hb => HIH.out y ao' cap' w' (by omega) (by omega) hA.hc (hA.kids.next hb)
        obtain ⟨d0, d1, d2, d3, d4, _, _⟩ := hA
        obtain ⟨g0, g1, g2, g3, g4, gf⟩ := HI.out.b2.cells
        obtain ⟨vao, vn, vcap, hv⟩ : ∃ vao vn vcap, v = .slice vao vn vcap := by
          rcases HI.out.own.2 with ⟨e, _⟩ | ⟨gg, cap, cur, e, _⟩
          · exact ⟨_, _, _, e⟩
          · exact ⟨_, _, _, e⟩
        subst hv
        unfold ndV at HCl
        obtain ⟨yk, ya, yi, ys, yl⟩ := y
        simp only at d0 d1 d2 d3 d4 HCl
        obtain ⟨Z, HZ⟩ : ∃ Z, Hid (baL ys = Z) := ⟨_, rfl⟩
        obtain ⟨P, HP⟩ : ∃ P, Hid (yl.length = P) := ⟨_, rfl⟩
        rw [HZ.out] at d3 HCl
        rw [HP.out] at d4 HCl
        obtain ⟨A1, HA1⟩ : ∃ A1 : Int, Hid ((ya : Int) = A1) := ⟨_, rfl⟩
        rw [HA1.out] at d1 HCl
        obtain ⟨i0, hi, hz0, hz1', hz2'⟩ := inRN'
        have hcl : cs.length ≤ 100000 := by have h1 := HI.out.kids.len; have h2 : (l.take j).length ≤ l.length := by simp; omega
                                            rw [HM.out] at h2; omega
        have s0 : Below wr.heap.size wr wr.drew := (Below.refl _ _).drew
        have s3 : Below (w.heap.size + 3) wr wr.drew := (Below.refl _ _).drew
        have gfz := gf 4
        have HOw : Hid (wr.ownsRow (w.heap.size + 3) 46 5 (.slice vao vn vcap) cs.length (ncsC cs)) := HI.out.own
        have hob : ∀ k, (Value.slice vao vn vcap).ownBlock = some k → w.heap.size + 3 ≤ k ∧ k < wr.heap.size := fun k hk => HOw.out.lt k hk
        have HOb : Hid (∀ k, (Value.slice vao vn vcap).ownBlock = some k → w.heap.size + 3 ≤ k ∧ k < wr.heap.size) := hob
        clear hy hA0 g0 g1 g2 g3 gf hob
        go_wp2_with fail
        go_region_law (first
            | (go_simp; go_at_call 20; refine (HCl.out _ s0).mono ?_; rintro e w2 ⟨⟨⟨ck, ca, ci, css, cao, cn, ccap⟩, rfl, hcc⟩, hb2⟩; have hb3 := next_trans s0 hb2; have hz3 : wr.heap.size ≤ w2.heap.size := hb3.size; have hx9 : w.heap.size + 2 < w2.heap.size := (by omega); have x4 := keep_cell hb3 g4; have xf := keep_froz hb3 g4 gfz; unfold nodeV; simp only)
            | ((refine step_append_lies _ (by rfl) _ _ _ (by rfl) (w.heap.size + 3) 46 i0 zeroNd 5 64 Tryz.underlying24 hi hz0 hz1' hz2' rfl (by decide) (.slice vao vn vcap) cs.length (ncsC cs) (by rfl) ((own_next HOw.out hb3).alloc _) ⟨w2.heap.size, 0, none⟩ 1 1 [.int .i64 ck, .int .i64 (ca : Int), .int .i64 ci, .string (baL css), .slice cao cn ccap] (by rfl) (by rfl) (World.news_of_block (cs := #[.int .i64 ck, .int .i64 (ca : Int), .int .i64 ci, .string (baL css), .slice cao cn ccap]) (t := 46) (fr := (0, 0)) (heap_alloc_new w2 _)) (by simp [Value.oneCell']) (by decide) (by unfold maxLen; omega) (by omega) (by simp; omega) (w2.heap.size + 1) (by simp) ?_; intro gk gcap w3 hown3 hgrow hat3 hlt3; have y4 := hgrow.cell (alloc_cell x4) (fun e => by have h9 : w.heap.size + 3 ≤ w.heap.size + 2 := (HOb.out _ e.symm).1; omega); have yf : w3.frozen? ⟨w.heap.size + 2, 4, none⟩ = false := (hgrow.frozen_far _ (by simp; omega) (fun e => by have h9 : w.heap.size + 3 ≤ w.heap.size + 2 := (HOb.out _ e.symm).1; omega)).trans (alloc_froz x4 xf))))
        all_goals
          have HO3 : Hid (w3.ownsRow (w.heap.size + 3) 46 5 (.slice (some ⟨gk, 0, none⟩) (cs.length + 1) gcap) (cs ++ [(⟨ck, ca, ci, css, cao, cn, ccap⟩ : Nc)]).length (ncsC (cs ++ [(⟨ck, ca, ci, css, cao, cn, ccap⟩ : Nc)]))) := by
            rw [← ncs_snoc, Hid, List.length_append]; exact hown3
          have HC : NcIs w2 (offB (w.heap.size + 3) (.slice vao vn vcap)) ⟨ck, ca, ci, css, cao, cn, ccap⟩ ⟨yk, ya, yi, ys, yl⟩ := hcc.keep fun k hk _ => ⟨rfl, by have hk' : wr.heap.size ≤ k := hk; omega, fun e => by have := (HOb.out k e).2; have hk' : wr.heap.size ≤ k := hk; omega⟩
          have HK3 : Hid (NcsIs w3 (offB (w.heap.size + 3) (.slice (some ⟨gk, 0, none⟩) (cs.length + 1) gcap)) (cs ++ [(⟨ck, ca, ci, css, cao, cn, ccap⟩ : Nc)]) (l.take (j + 1))) := by
            rw [HTk.out]
            exact ncs_grow ((NcsIs.snoc HC (HI.out.kids.next hb3)).next (alloc_below _ _)) hgrow hat3 (by simp)
          have hgb : ∀ k, k < w.heap.size + 3 → w3.heap[k]? = wr.heap[k]? := fun k hk => by
            rw [hgrow.block k (by simp; omega) (fun e => by have := (HOb.out k e.symm).1; omega), Below.heap_alloc _ _ _ (by omega), hb3.block k (by omega)]
          have HN : Hid (OfAt w (w3.setCell ⟨w.heap.size + 2, 4, none⟩ (.slice (some ⟨gk, 0, none⟩) (cs.length + 1) gcap)) k a i Y l (some ⟨b, o, none⟩) M cap (j + 1) (cs ++ [(⟨ck, ca, ci, css, cao, cn, ccap⟩ : Nc)]) (.slice (some ⟨gk, 0, none⟩) (cs.length + 1) gcap)) := by
            have h := HI.out
            have hs : ∀ k, k < w.heap.size + 2 → (w3.setCell ⟨w.heap.size + 2, 4, none⟩ (.slice (some ⟨gk, 0, none⟩) (cs.length + 1) gcap)).heap[k]? = wr.heap[k]? := fun k hk => by
              rw [Below.heap_setCell _ _ _ _ (by show k ≠ w.heap.size + 2; omega)]; exact hgb k (by omega)
            have hg3 := hgrow.size
            have hss : w.heap.size + 3 ≤ w3.heap.size := by simp at hg3; omega
            refine ⟨⟨?_, ?_, ?_, ?_, fun k hk => (hs k (by omega)).trans (h.bel.block k hk)⟩, ?_, ?_, h.b1.keep (hs _ (by omega)), (h.b2.keep (hgb _ (by omega))).set4 _, ownsRow_setCell_below HO3.out (by show w.heap.size + 2 < w.heap.size + 3; omega) _, ?_⟩
            · exact hgrow.os.trans (hb3.os.trans h.bel.os)
            · exact hgrow.tape.trans (hb3.tape.trans h.bel.tape)
            · exact hgrow.output.trans (hb3.output.trans h.bel.output)
            · simp only [World.setCell, Array.size_modify]; omega
            · simp only [World.setCell, Array.size_modify]; exact hss
            · rw [World.cell?_of_block (a := ⟨w.heap.size, 4, none⟩) (hs w.heap.size (by omega))]; exact c4
            · exact HK3.out.keep fun k hk _ => ⟨Below.heap_setCell _ _ _ _ (by show k ≠ w.heap.size + 2; have := hk.1; omega), hk⟩
          clear hown3 hgrow hat3 hcc hgb HC hb2 hb3 x4 xf y4 yf c4 d0 d1 d2 d3 d4 g4 gfz
          go_wp2
          go_roundw
          case rel => exact ⟨j + 1, cs ++ [(⟨ck, ca, ci, css, cao, cn, ccap⟩ : Nc)], _, by omega, by go_num, HN⟩
          case measure => simp [intOf]; omega
      · have hli : ¬ (j : Int) < (M : Int) := by omega
        have hfull : l.take j = l := List.take_of_length_le (by rw [HM.out]; omega)
        obtain ⟨vao, vcap, hv, hvc, hnd⟩ := own_nds (S := geB (w.heap.size + 3)) HI.out.own (HI.out.kids.keep fun k hk _ => ⟨rfl, hk.1⟩) (fun k hk _ => hk)
        subst hv
        rw [hfull] at hnd hvc
        obtain ⟨e0, e1, e2, e3, e4, ef⟩ := HI.out.b1.cells
        obtain ⟨g0, g1, g2, g3, g4, gf⟩ := HI.out.b2.cells
        rw [hfull, HM.out] at g4
        rw [HM.out] at hvc
        have HND : Hid (IsNds wr (geB (w.heap.size + 3)) vao l) := hnd
        clear hnd HI hfull
        go_wp2
        refine bodyPost_ret (v := .agg #[.int .i64 (k), .int .i64 ((a : Int)), .int .i64 (i), .string (Y), .slice vao M vcap]) (by simp [results, Tryz.results20, go_sem, e0, e1, e2, e3, e4]) rfl ⟨⟨⟨k, a, i, s, vao, M, vcap⟩, by rw [← HY.out]; rfl, rfl, rfl, rfl, rfl, HM.out.symm, hvc, ?_⟩, ?_⟩
        · exact HND.out.keep fun k hk _ => ⟨set5_block _ _ _ _ _ (by unfold geB at hk; omega), by unfold geB at hk ⊢; omega⟩
        · exact ((((HBr.out.setCell (p := ⟨w.heap.size + 1, 0, none⟩) (by show w.heap.size ≤ w.heap.size + 1; omega) _).setCell (p := ⟨w.heap.size + 1, 1, none⟩) (by show w.heap.size ≤ w.heap.size + 1; omega) _).setCell (p := ⟨w.heap.size + 1, 2, none⟩) (by show w.heap.size ≤ w.heap.size + 1; omega) _).setCell (p := ⟨w.heap.size + 1, 3, none⟩) (by show w.heap.size ≤ w.heap.size + 1; omega) _).setCell (p := ⟨w.heap.size + 1, 4, none⟩) (by show w.heap.size ≤ w.heap.size + 1; omega) _
end Go.Proofs.YtnhbjhdkpbhioaaGreatDoor
namespace Go.Proofs.YtnhbjhdkpbhioaaGreatDoor
open Go.RowKit
theorem baL_app (a b : List UInt8) : baL a ++ baL b = baL (a ++ b) := by
  apply ByteArray.ext
  show (baL a ++ baL b).data = (a ++ b).toArray
  rw [← Array.toList_inj, ba_app]; rfl
end Go.Proofs.YtnhbjhdkpbhioaaGreatDoor
