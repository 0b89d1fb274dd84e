import Derived.Test.YtnhbjhdkpbhioaaGreatDoorH7
import Derived.Test.YtnhbjhdkpbhioaaGreatDoorG8
import Derived.Test.YtnhbjhdkpbhioaaGreatDoorG13
import Derived.Test.YtnhbjhdkpbhioaaGreatDoorG14
import Derived.Lib.Join
namespace Go.Proofs.YtnhbjhdkpbhioaaGreatDoor
open Go.RowKit
def wordE (n : Int) : List UInt8 :=
  if n = 1 then [97, 114, 103] else if n = 2 then [102, 111, 114, 109] else if n = 3 then [115, 104, 111, 114, 116] else if n = 4 then [108, 111, 110, 103] else if n = 5 then [110, 97, 109, 101] else if n = 6 then [116, 119, 105, 99, 101] else if n = 7 then [98, 111, 117, 110, 100] else if n = 8 then [116, 121, 112, 101] else if n = 9 then [102, 117, 101, 108] else if n = 10 then [102, 117, 108, 108] else if n = 11 then [114, 97, 110, 103, 101] else []
theorem errno_cases {n : Int} (h1 : 1 ≤ n) (h2 : n ≤ 11) : n = 1 ∨ n = 2 ∨ n = 3 ∨ n = 4 ∨ n = 5 ∨ n = 6 ∨ n = 7 ∨ n = 8 ∨ n = 9 ∨ n = 10 ∨ n = 11 := by omega
set_option maxHeartbeats 4000000 in
set_option maxRecDepth 8000 in
theorem errno_any (n : Int) (w : World) (h1 : 1 ≤ n) (h2 : n ≤ 11) :
    Calls Tryz.prog 117 #[.int .i64 n] w fun e w' => e = .returned (.string (baL (wordE n))) ∧ w' = w := by
  rcases errno_cases h1 h2 with rfl | rfl | rfl | rfl | rfl | rfl | rfl | rfl | rfl | rfl | rfl <;>
  · clear h1 h2
    go_enter Tryz.func117, Tryz.ntmps117
    go_wp2
    go_ret
    exact ⟨rfl, rfl⟩
set_option maxHeartbeats 4000000 in
set_option maxRecDepth 8000 in
theorem rword_any (n : Int) (w : World) (h1 : 1 ≤ n) (h2 : n ≤ 11) :
    Calls Tryz.prog 92 #[.int .i64 n] w fun e w' => e = .returned (.string (baL (wordE n))) ∧ Below w.heap.size w w' := by
  rcases errno_cases h1 h2 with rfl | rfl | rfl | rfl | rfl | rfl | rfl | rfl | rfl | rfl | rfl <;>
  · clear h1 h2
    go_enter Tryz.func92, Tryz.ntmps92
    go_wp2
    go_ret
    exact ⟨rfl, alloc_below _ _⟩
theorem fresh_froz (w : World) (xs : Array Value) (T : Nat) (k : Nat) : (w.alloc (.cells xs T)).frozen? ⟨w.heap.size, k, none⟩ = false := Lib.frozen_of_heap (w := w.alloc (.cells xs T)) (heap_alloc_new w _) k
set_option maxHeartbeats 4000000 in
set_option maxRecDepth 8000 in
theorem number_any (n : Int) (ps : List (List UInt8 × Int)) (v : Value) (w : World) (hC : Chain w n ps v) (hg : ErrW w) :
    Calls Tryz.prog 53 #[v] w fun e w' => e = .returned (.int .i64 n) ∧ Below w.heap.size w w' := by
  obtain ⟨ty, y, rfl⟩ := hC.iface
  have HA : Hid (Calls Tryz.prog 55 #[.iface ty y, .iface 190 (.pointer (some ⟨w.heap.size, 0, none⟩))] (w.alloc (.cells #[.int .i64 0] 118)) fun e w' => AsR ⟨w.heap.size, 0, none⟩ (.int .i64 n) (w.alloc (.cells #[.int .i64 0] 118)) w' e) :=
    as_num n ps _ (.int .i64 0) ⟨w.heap.size, 0, none⟩ _ (alloc_cell hg) (hC.next (alloc_below _ _)) (box0 rfl) (fresh_froz _ _ _ _)
  clear hC hg
  go_enter Tryz.func53, Tryz.ntmps53
  go_wp2_with fail
  refine HA.out.mono ?_
  rintro e w1 ⟨rfl, hc, hb⟩
  have HB : Hid (Below w.heap.size w w1) := ((Below.refl _ _).alloc (Nat.le_refl _) _).trans hb
  clear hb HA
  go_wp2
  go_ret
  exact ⟨rfl, HB.out⟩
set_option maxHeartbeats 4000000 in
set_option maxRecDepth 8000 in
theorem word_any5 (n : Int) (w : World) (hg : ErrW w) (h1 : 1 ≤ n) (h2 : n ≤ 11) :
    Calls Tryz.prog 88 #[.iface 118 (.int .i64 n)] w fun e w' => e = .returned (.string (baL (wordE n))) ∧ Below w.heap.size w w' := by
  have HN : Hid (Calls Tryz.prog 53 #[.iface 118 (.int .i64 n)] w fun e w' => e = .returned (.int .i64 n) ∧ Below w.heap.size w w') := number_any n [] _ w rfl hg
  have HI : Hid (∀ w, Calls Tryz.prog 54 #[.iface 118 (.int .i64 n), .iface 118 (.int .i64 n)] w fun e w' => e = .returned (.bool true) ∧ w' = w) := fun w => is_any5 n [] _ w rfl
  have HE : Hid (∀ w, Calls Tryz.prog 117 #[.int .i64 n] w fun e w' => e = .returned (.string (baL (wordE n))) ∧ w' = w) := fun w => errno_any n w h1 h2
  clear hg h1 h2
  go_enter Tryz.func88, Tryz.ntmps88
  go_wp2_with fail
  refine HN.out.mono ?_
  rintro e w1 ⟨rfl, hb⟩
  have HB : Hid (Below w.heap.size w w1) := hb
  clear hb HN
  go_wp2_with fail
  refine (HI.out w1).mono ?_
  rintro e w2 ⟨rfl, rfl⟩
  go_wp2_with fail
  refine (HE.out w2).mono ?_
  rintro e w3 ⟨rfl, rfl⟩
  go_wp2
  go_ret
  exact ⟨rfl, HB.out⟩
end Go.Proofs.YtnhbjhdkpbhioaaGreatDoor
namespace Go.Proofs.YtnhbjhdkpbhioaaGreatDoor
open Go.RowKit
abbrev Pt := List UInt8 × Int
def ptL (p : Pt) : List UInt8 := p.1 ++ [32] ++ Lib.itoa p.2
def toldL (S : List UInt8) : List Pt → List UInt8
  | [] => S
  | p :: r => ptL p ++ [58, 32] ++ toldL S r
theorem join_one (x sep : List UInt8) : Lib.join [x] sep = x := by unfold Lib.join; simp [List.intercalate]
theorem join_two (x y : List UInt8) (r : List (List UInt8)) (sep : List UInt8) : Lib.join (x :: y :: r) sep = x ++ sep ++ Lib.join (y :: r) sep := by
  unfold Lib.join; simp [List.intercalate, List.intersperse]
theorem join_told (S : List UInt8) : ∀ ps : List Pt, Lib.join (ps.map ptL ++ [S]) [58, 32] = toldL S ps
  | [] => join_one S _
  | [p] => by show Lib.join [ptL p, S] _ = _; rw [join_two, join_one]; rfl
  | p :: q :: r => by
    have := join_told S (q :: r)
    show Lib.join (ptL p :: ptL q :: (r.map ptL ++ [S])) _ = _
    rw [join_two]
    show _ = ptL p ++ [58, 32] ++ toldL S (q :: r)
    rw [← this]; rfl
theorem told_len (S : List UInt8) : ∀ ps : List Pt, (∀ p ∈ ps, p.1.length ≤ 1000 ∧ inB p.2 = true) → (toldL S ps).length ≤ S.length + ps.length * 1100
  | [], _ => Nat.le_add_right _ _
  | p :: r, h => by
    have h1 := told_len S r fun q hq => h q (List.mem_cons_of_mem _ hq)
    have h2 := h p List.mem_cons_self
    have h3 := itoa_len p.2 h2.2
    show (p.1 ++ [32] ++ Lib.itoa p.2 ++ [58, 32] ++ toldL S r).length ≤ _
    rw [List.length_append, List.length_append, List.length_append, List.length_append, List.length_cons]
    simp only [List.length_cons, List.length_nil]
    omega
def ChainV (w : World) (V : Value) : List Pt → Value → Prop
  | [], v => v = V
  | p :: r, v => ∃ B v', v = .iface 133 (.pointer (some ⟨B, 0, none⟩)) ∧ w.cell? ⟨B, 0, none⟩ = some (.string (baL p.1)) ∧ w.cell? ⟨B, 1, none⟩ = some (.int .i64 p.2) ∧ w.cell? ⟨B, 2, none⟩ = some v' ∧ ChainV w V r v'
theorem Chain.v {w : World} {n : Int} : ∀ {ps : List Pt} {v : Value}, Chain w n ps v → ChainV w (.iface 118 (.int .i64 n)) ps v
  | [], _, h => h
  | _ :: _, _, ⟨B, v', h1, h2, h3, h4, h5⟩ => ⟨B, v', h1, h2, h3, h4, Chain.v h5⟩
structure EndV (V : Value) (S : List UInt8) : Prop where
  i : ∃ ty y, V = .iface ty y
  as_ : ∀ t w, ErrW w → Calls Tryz.prog 55 #[V, .iface 135 (.pointer (some t))] w fun e w' => e = .returned (.bool false) ∧ Below w.heap.size w w'
  wd : ∀ w, ErrW w → Calls Tryz.prog 88 #[V] w fun e w' => e = .returned (.string (baL S)) ∧ Below w.heap.size w w'
theorem end_e (n : Int) (h1 : 1 ≤ n) (h2 : n ≤ 11) : EndV (.iface 118 (.int .i64 n)) (wordE n) := ⟨⟨_, _, rfl⟩, fun t w h => as_ef n t w h, fun w h => word_any5 n w h h1 h2⟩
theorem inSg : (Tryz.prog.info? 9).map (fun i => (i.zero, i.size, i.bytes)) = some (some (.string ⟨#[]⟩), 1, 16) := by kernel_rfl
theorem inSg' : ∃ i, Tryz.prog.info? 9 = some i ∧ i.zero = some (.string ⟨#[]⟩) ∧ i.size = 1 ∧ i.bytes = 16 := by
  obtain ⟨i, h, e⟩ := Option.map_eq_some_iff.1 inSg
  simp only [Prod.mk.injEq] at e
  exact ⟨i, h, e.1, e.2.1, e.2.2⟩
structure TdAt (V : Value) (w wr : World) (P xs r : List Pt) (v pv : Value) : Prop where
  ch : ChainV w V r v
  own : wr.ownsRow w.heap.size 9 1 pv xs.length (xs.map fun p => .string (baL (ptL p)))
  bel : Below w.heap.size w wr
  eq : xs ++ r = P
theorem asW_bel (e t : Addr) (w : World) (T : Nat) (hT : t.block = w.heap.size) : Below w.heap.size w (asW e t (w.alloc (.cells #[.pointer none] T))) := by
  unfold asW
  refine Below.setCell ?_ (by rw [hT]; exact Nat.le_refl _) _
  exact ((((((Below.refl _ _).alloc (Nat.le_refl _) _).alloc (by simp) _).alloc (by simp; omega) _).alloc (by simp; omega) _).alloc (by simp; omega) _)
theorem asW_cell (e : Addr) (w : World) (T : Nat) : (asW e ⟨w.heap.size, 0, none⟩ (w.alloc (.cells #[.pointer none] T))).cell? ⟨w.heap.size, 0, none⟩ = some (.pointer (some e)) := by
  unfold asW
  exact World.cell?_setCell_same _ _ _ (alloc_cell (alloc_cell (alloc_cell (alloc_cell (box0 rfl)))))
set_option maxHeartbeats 8000000 in
set_option maxRecDepth 20000 in
theorem told_v (V : Value) (S : List UInt8) (ps : List Pt) (v : Value) (w : World) (hE : EndV V S) (hC : ChainV w V ps v) (hg : ErrW w) (ht : TabW w) (hl : ps.length ≤ 1000) (hp : ∀ p ∈ ps, p.1.length ≤ 1000 ∧ inB p.2 = true) (hS : S.length ≤ 1000) :
    Calls Tryz.prog 51 #[v] w fun e w' => e = .returned (.string (baL (toldL S ps))) ∧ Below w.heap.size w w' := by
  obtain ⟨i0, hi, hz0, hz1, hz2⟩ := inSg'
  obtain ⟨ty, y, rfl⟩ := hE.i
  have HE : Hid (EndV (.iface ty y) S) := hE
  have HT : Hid (TabW w) := ht
  have HG : Hid (ErrW w) := hg
  have HP : Hid (∀ p ∈ ps, p.1.length ≤ 1000 ∧ inB p.2 = true) := hp
  have HS : Hid (S.length ≤ 1000 ∧ ps.length ≤ 1000) := ⟨hS, hl⟩
  have H0 : Hid (TdAt (.iface ty y) w w ps [] ps v (.slice none 0 0)) := ⟨hC, ⟨rfl, .inl ⟨rfl, rfl⟩⟩, Below.refl _ _, rfl⟩
  obtain ⟨g, Hg⟩ : ∃ g, Hid (ps.length = g) := ⟨_, rfl⟩
  clear hE hC hg ht hp hS hl
  go_enter Tryz.func51, Tryz.ntmps51
  go_wp2
  go_loopg [0, 3] g (fun gk v pv wr => ∃ xs r, Hid (r.length = gk) ∧ Hid (TdAt (.iface ty y) w wr ps xs r v pv))
  case atStart => exact ⟨[], ps, Hg, H0⟩
  case round =>
    obtain ⟨xs, r, HL, HI⟩ := hrel
    clear H0 Hg
    have HGr : Hid (ErrW wr) := keep_cell HI.out.bel HG.out
    have hsz := HI.out.bel.size
    obtain ⟨X, HX⟩ : ∃ X, Hid (xs.length = X) := ⟨_, rfl⟩
    have hXb : X ≤ 1000 := by
      have h1 := congrArg List.length HI.out.eq
      have h2 := HS.out.2
      rw [List.length_append] at h1
      have := HX.out
      omega
    cases r with
    | nil =>
      have hv : u0 = .iface ty y := HI.out.ch
      subst hv
      have HO : Hid (wr.ownsRow w.heap.size 9 1 u3 X (xs.map fun p => .string (baL (ptL p)))) := by rw [Hid, ← HX.out]; exact HI.out.own
      have HB : Hid (Below w.heap.size w wr) := HI.out.bel
      have HEq : Hid (xs = ps) := by rw [Hid, ← HI.out.eq]; simp
      have HA : Hid (Calls Tryz.prog 55 #[.iface ty y, .iface 135 (.pointer (some ⟨wr.heap.size, 0, none⟩))] (wr.alloc (.cells #[.pointer none] 133)) fun e w' => e = .returned (.bool false) ∧ Below (wr.alloc (.cells #[.pointer none] 133)).heap.size (wr.alloc (.cells #[.pointer none] 133)) w') :=
        HE.out.as_ _ _ (alloc_cell HGr.out)
      clear HI HL
      go_wp2_with fail
      refine HA.out.mono ?_
      rintro e w1 ⟨rfl, hb1⟩
      have hb1' := next_trans (alloc_below _ _) hb1
      have HB1 : Hid (Below wr.heap.size wr w1) := hb1'
      have HW : Hid (Calls Tryz.prog 88 #[.iface ty y] w1 fun e w' => e = .returned (.string (baL S)) ∧ Below w1.heap.size w1 w') := HE.out.wd w1 (keep_cell hb1' HGr.out)
      clear hb1 hb1' HA
      go_wp2_with fail
      refine HW.out.mono ?_
      rintro e w2 ⟨rfl, hb2⟩
      have HB2 : Hid (Below wr.heap.size wr w2) := next_trans HB1.out hb2
      have HO2 : Hid (w2.ownsRow w.heap.size 9 1 u3 X (xs.map fun p => .string (baL (ptL p)))) := own_next HO.out HB2.out
      have hz2 := HB2.out.size
      clear hb2 HW
      go_wp2_with (at_builtin; refine wpList_append_lies _ rfl _ _ 61 rfl w.heap.size 9 i0 (.string ⟨#[]⟩) 1 16 Tryz.underlying61 hi hz0 hz1 (by assumption) rfl (by decide) _ _ _ rfl (HO2.out.alloc _) ⟨w2.heap.size, 0, none⟩ 1 1 [.string (baL S)] rfl rfl (World.news_of_block (cs := #[.string (baL S)]) (t := 9) (fr := (0, 0)) (heap_alloc_new w2 _)) (by simp [Value.oneCell']) (by decide) (by unfold maxLen; omega) (by omega) (by simp; omega) (w2.heap.size + 1) (by simp) ?_)
      intro g2 gcap w3 ho hgr _ hlt
      have HB3 : Hid (Below w.heap.size w w3) := (HB.out.trans ((HB2.out.mono hsz).trans ((Below.refl _ _).alloc (by omega) _))).grown hgr (by simp; omega) (fun k hk => (HO2.out.lt k hk).1)
      have HJ : Hid (Calls Tryz.prog 90 #[.slice (some ⟨g2, 0, none⟩) (X + 1) gcap, .string ⟨#[58, 32]⟩] w3 fun e w' => e = .returned (.string (baL (toldL S ps))) ∧ Below w3.heap.size w3 w') := by
        have hlen : (xs.map (fun p => baL (ptL p)) ++ [baL S]).length = X + 1 := by simp [HX.out]
        have hcap : X + 1 ≤ gcap := by
          rcases ho.2 with ⟨h0, _⟩ | ⟨gg, cap, cur, e, _, _, hle, _⟩
          · cases h0
          · injection e with _ _ e3; omega
        have hj := Tryz.strings_Join g2 0 gcap (xs.map (fun p => baL (ptL p)) ++ [baL S]) ⟨#[58, 32]⟩ w3 ?_ hlt (by rw [hlen]; omega) (by rw [hlen]; exact hcap) ?_
        · rw [hlen] at hj
          refine hj.mono ?_
          rintro e w' ⟨rfl, hb⟩
          refine ⟨?_, hb⟩
          have h9 : (xs.map (fun p => baL (ptL p)) ++ [baL S]).map (·.data.toList) = xs.map ptL ++ [S] := by
            rw [List.map_append, List.map_map]; rfl
          rw [h9, HEq.out]
          exact congrArg _ (congrArg _ (congrArg baL (join_told S ps)))
        · intro j x hx
          rw [Nat.zero_add]
          have h1 : j < X + 1 := by
            rw [← hlen]
            rcases Nat.lt_or_ge j (xs.map (fun p => baL (ptL p)) ++ [baL S]).length with h | h
            · exact h
            · rw [List.getElem?_eq_none h] at hx; cases hx
          rw [ho.cellAt j (by omega)]
          have h2 : (List.map (fun p => Value.string (baL (ptL p))) xs ++ [Value.string (baL S)]) = (xs.map (fun p => baL (ptL p)) ++ [baL S]).map Value.string := by
            rw [List.map_append, List.map_map]; rfl
          rw [h2, List.getElem?_map, hx]; rfl
        · have h9 : (xs.map (fun p => baL (ptL p)) ++ [baL S]).map (·.data.toList) = xs.map ptL ++ [S] := by
            rw [List.map_append, List.map_map]; rfl
          rw [h9, HEq.out]
          have h8 : Lib.join (ps.map ptL ++ [S]) [58, 32] = toldL S ps := join_told S ps
          have h7 := told_len S ps HP.out
          have h6 := HS.out
          show (Lib.join (ps.map ptL ++ [S]) [58, 32]).length ≤ _
          rw [h8]
          have : ps.length * 1100 ≤ 1000 * 1100 := Nat.mul_le_mul_right _ h6.2
          omega
      clear ho hgr hlt
      go_wp2_with fail
      refine HJ.out.mono ?_
      rintro e w4 ⟨rfl, hb4⟩
      have HB4 : Hid (Below w.heap.size w w4) := HB3.out.trans (hb4.mono HB3.out.size)
      clear hb4
      go_wp2
      go_ret
      exact ⟨rfl, HB4.out⟩
    | cons p r =>
      obtain ⟨B, v', rfl, c0, c1, c2, hch⟩ := HI.out.ch
      have HO : Hid (wr.ownsRow w.heap.size 9 1 u3 X (xs.map fun p => .string (baL (ptL p)))) := by rw [Hid, ← HX.out]; exact HI.out.own
      have HB : Hid (Below w.heap.size w wr) := HI.out.bel
      have HEq : Hid (xs ++ p :: r = ps) := HI.out.eq
      have hpp := HP.out p (by rw [← HEq.out]; simp)
      have HCh : Hid (ChainV w (.iface ty y) r v') := hch
      obtain ⟨W, HW⟩ : ∃ W, Hid (asW ⟨B, 0, none⟩ ⟨wr.heap.size, 0, none⟩ (wr.alloc (.cells #[.pointer none] 133)) = W) := ⟨_, rfl⟩
      have HA : Hid (Calls Tryz.prog 55 #[.iface 133 (.pointer (some ⟨B, 0, none⟩)), .iface 135 (.pointer (some ⟨wr.heap.size, 0, none⟩))] (wr.alloc (.cells #[.pointer none] 133)) fun e w' => e = .returned (.bool true) ∧ w' = W) := by
        rw [← HW.out]
        exact as_hit _ _ (.pointer none) _ (alloc_cell HGr.out) (box0 rfl) (fresh_froz _ _ _ _)
      have hbW : Below wr.heap.size wr W := by rw [← HW.out]; exact asW_bel _ _ _ _ rfl
      have hcW : W.cell? ⟨wr.heap.size, 0, none⟩ = some (.pointer (some ⟨B, 0, none⟩)) := by rw [← HW.out]; exact asW_cell _ _ _
      have k0 := keep_cell hbW (keep_cell HB.out c0)
      have k1 := keep_cell hbW (keep_cell HB.out c1)
      have k2 := keep_cell hbW (keep_cell HB.out c2)
      have HBW : Hid (Below wr.heap.size wr W) := hbW
      have hBw : B < w.heap.size := World.block_lt_of_cell? w ⟨B, 2, none⟩ c2
      obtain ⟨ps1, ps2⟩ := p
      simp only at k0 k1 k2 hpp
      have hin := (inB_iff _).1 hpp.2
      have HTW : Hid (TabW W) := tab_next HT.out (HB.out.trans (hbW.mono hsz))
      clear HI hch c0 c1 c2 hbW
      go_wp2_with fail
      refine HA.out.mono ?_
      rintro e w1 ⟨rfl, rfl⟩
      have HIt : Hid (∀ w2, Below w1.heap.size w1 w2 → Calls Tryz.prog 89 #[.int .i64 ps2] w2 fun e w' => e = .returned (.string (baL (Lib.itoa ps2))) ∧ Below w2.heap.size w2 w') := fun w2 h => by
        refine (Tryz.strconv_Itoa ps2 hin.1 hin.2 w2 (tab_next HTW.out h)).mono ?_
        rintro e w' ⟨rfl, k, os, rfl⟩
        exact ⟨rfl, grow_below _ _ _⟩
      have hil := itoa_len ps2 hpp.2
      have HOw : Hid (w1.ownsRow w.heap.size 9 1 u3 X (xs.map fun p => .string (baL (ptL p)))) := own_next HO.out HBW.out
      have HOb : Hid (∀ k, u3.ownBlock = some k → w.heap.size ≤ k ∧ k < wr.heap.size) := fun k hk => HO.out.lt k hk
      have s0 : Below w1.heap.size w1 w1.drew := (Below.refl _ _).drew
      obtain ⟨I, HIe⟩ : ∃ I, Hid (baL (Lib.itoa ps2) = I) := ⟨_, rfl⟩
      obtain ⟨Q, HQ⟩ : ∃ Q, Hid (baL ps1 = Q) := ⟨_, rfl⟩
      have hIs : I.size ≤ 21 := by rw [← HIe.out]; exact hil
      have hQs : Q.size ≤ 1000 := by rw [← HQ.out]; exact hpp.1
      rw [HQ.out] at k0
      rw [HIe.out] at HIt
      have hws := HBW.out.size
      have hn1 : ¬ 9223372036854775807 < Q.size + 1 := by omega
      have hn2 : ¬ 9223372036854775807 < Q.size + 1 + I.size := by omega
      clear hpp hil hin HA
      go_wp2_with fail
      go_region_law (first
        | (go_simp; go_at_call 89; refine (HIt.out _ s0).mono ?_; rintro e w2 ⟨rfl, hb2⟩; have hb3 := next_trans s0 hb2; have hz3 : w1.heap.size ≤ w2.heap.size := hb3.size; have x0 := keep_cell hb3 k0; have x1 := keep_cell hb3 k1; have x2 := keep_cell hb3 k2; have xc := keep_cell hb3 hcW)
        | ((refine step_append_lies _ (by rfl) _ _ _ (by rfl) w.heap.size 9 i0 (.string ⟨#[]⟩) 1 16 Tryz.underlying61 hi hz0 hz1 hz2 rfl (by decide) u3 X (xs.map fun p => .string (baL (ptL p))) (by rfl) ((own_next HOw.out hb3).alloc _) ⟨w2.heap.size, 0, none⟩ 1 1 [.string (Q ++ ⟨#[32]⟩ ++ I)] (by rfl) (by rfl) (World.news_of_block (cs := #[.string (Q ++ ⟨#[32]⟩ ++ I)]) (t := 9) (fr := (0, 0)) (heap_alloc_new w2 _)) (by simp [Value.oneCell']) (by decide) (by unfold maxLen; omega) (by omega) (by simp; omega) (w2.heap.size + 1) (by simp) ?_; intro gk' gcap w3 hown3 hgrow hat3 hlt3)))
      all_goals
        have HN : Hid (TdAt (.iface ty y) w w3 ps (xs ++ [(ps1, ps2)]) r v' (.slice (some ⟨gk', 0, none⟩) (X + 1) gcap)) := by
          have e1 : baL (ptL (ps1, ps2)) = Q ++ ⟨#[32]⟩ ++ I := by
            rw [← HQ.out, ← HIe.out, show (⟨#[32]⟩ : ByteArray) = baL [32] from rfl, baL_app, baL_app]; rfl
          have e2 : (xs ++ [(ps1, ps2)]).map (fun p => Value.string (baL (ptL p))) = xs.map (fun p => Value.string (baL (ptL p))) ++ [.string (Q ++ ⟨#[32]⟩ ++ I)] := by
            rw [List.map_append, ← e1]; rfl
          refine ⟨HCh.out, ?_, ?_, ?_⟩
          · rw [e2, List.length_append, HX.out]; exact hown3
          · exact (HB.out.trans (((next_trans HBW.out hb3).mono hsz).trans ((Below.refl _ _).alloc (by omega) _))).grown hgrow (by simp; omega) (fun k hk => (HOb.out k hk).1)
          · rw [← HEq.out, List.append_assoc]; rfl
        have HLt : Hid (r.length < gk) := by have := HL.out; rw [List.length_cons] at this; rw [Hid]; omega
        have yc := hgrow.cell (alloc_cell xc) (fun e => by have h9 := (HOb.out _ e.symm).2; simp at h9)
        have y2 := hgrow.cell (alloc_cell x2) (fun e => by have h9 := (HOb.out _ e.symm).1; simp at h9; omega)
        clear hown3 hgrow hat3 hlt3 x0 x1 x2 xc
        go_wp2
        go_roundg r.length
        case rel => exact ⟨_, r, rfl, HN⟩
        case measure => exact HLt.out
end Go.Proofs.YtnhbjhdkpbhioaaGreatDoor
namespace Go.Proofs.YtnhbjhdkpbhioaaGreatDoor
open Go.RowKit
theorem told_chain (n : Int) (ps : List Pt) (v : Value) (w : World) (hC : Chain w n ps v) (hg : ErrW w) (ht : TabW w) (h1 : 1 ≤ n) (h2 : n ≤ 11) (hl : ps.length ≤ 1000) (hp : ∀ p ∈ ps, p.1.length ≤ 1000 ∧ inB p.2 = true) :
    Calls Tryz.prog 51 #[v] w fun e w' => e = .returned (.string (baL (toldL (wordE n) ps))) ∧ Below w.heap.size w w' := by
  refine told_v _ (wordE n) ps v w (end_e n h1 h2) hC.v hg ht hl hp ?_
  rcases errno_cases h1 h2 with rfl | rfl | rfl | rfl | rfl | rfl | rfl | rfl | rfl | rfl | rfl <;> decide
theorem FaultAt.chain {w : World} {B : Nat} {a e : Int} (h : FaultAt w B a e) : Chain w e [([99, 104, 97, 114], a)] (.iface 133 (.pointer (some ⟨B, 0, none⟩))) := by
  have hc := h.cells
  exact ⟨B, _, rfl, hc.1, hc.2.1, hc.2.2, rfl⟩
end Go.Proofs.YtnhbjhdkpbhioaaGreatDoor
