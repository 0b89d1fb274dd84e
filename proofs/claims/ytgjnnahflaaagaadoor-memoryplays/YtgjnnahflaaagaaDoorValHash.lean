/- The contract of package val's Hash: any row of values, in old memory. -/
import Derived.Test.YtgjnnahflaaagaaDoorValHashM
import Derived.Test.YtgjnnahflaaagaaDoorValOf
import Derived.Test.YtgjnnahflaaagaaDoorNumWords
import Derived.Test.YtgjnnahflaaagaaDoorBuild
import Derived.Laws.IdiomStrings
import Derived.Laws.OwnMore
import Derived.Lib.BufferKept
import Derived.Lib.AppendStr
import Derived.OwnWalk
namespace Go.Proofs.YtgjnnahflaaagaaDoor
open Go.RowKit

/-- A row of values lies behind an address. -/
def IsVals (w : World) (ao : Option Addr) (L : List Val) : Prop :=
  ∀ (j : Nat) (v : Val), L[j]? = some v → ∃ b o, ao = some ⟨b, o, none⟩ ∧ w.cell? ⟨b, o + j * 3, none⟩ = some (.int .i64 v.k) ∧ w.cell? ⟨b, o + j * 3 + 1, none⟩ = some (.int .i64 v.i) ∧ w.cell? ⟨b, o + j * 3 + 2, none⟩ = some (.string v.s)
theorem IsVals.next {w w' : World} {ao : Option Addr} {L : List Val} (h : IsVals w ao L) (hb : Below w.heap.size w w') : IsVals w' ao L := by
  intro j v hj
  obtain ⟨b, o, h0, h1, h2, h3⟩ := h j v hj
  exact ⟨b, o, h0, keep_cell hb h1, keep_cell hb h2, keep_cell hb h3⟩

/-- How long a row is, out of the walk's sight. -/
def lenL (l : List UInt8) : Nat := l.length
theorem alloc_at (w : World) (o : Obj) : (w.alloc o).heap[w.heap.size]? = some o := by
  show (w.heap.push o)[w.heap.size]? = some o
  simp
/-- Amid a round: the row so far, the old memory, the round's own value. -/
structure HAt (B bx : Nat) (v : Val) (l : List UInt8) (sv : Value) (w0 w : World) : Prop where
  own : w.ownsRow B 5 1 sv (lenL l) (Lib.byteCells l)
  bel : Below B w0 w
  box : w.heap[bx]? = some (.cells #[.int .i64 v.k, .int .i64 v.i, .string v.s] 32 (0, 0))
theorem HAt.cells {B bx : Nat} {v : Val} {l : List UInt8} {sv : Value} {w0 w : World} (h : HAt B bx v l sv w0 w) : w.cell? ⟨bx, 0, none⟩ = some (.int .i64 v.k) ∧ w.cell? ⟨bx, 1, none⟩ = some (.int .i64 v.i) ∧ w.cell? ⟨bx, 2, none⟩ = some (.string v.s) :=
  ⟨by rw [Lib.cell_of_heap h.box]; rfl, by rw [Lib.cell_of_heap h.box]; rfl, by rw [Lib.cell_of_heap h.box]; rfl⟩
theorem HAt.others {B bx : Nat} {v : Val} {l l' : List UInt8} {sv sv' : Value} {w0 w w' : World} (h : HAt B bx v l sv w0 w) (ho : w'.ownsRow B 5 1 sv' (lenL l') (Lib.byteCells l')) (hb : Below B w w') (hk : Lib.OthersKept 5 none w w') : HAt B bx v l' sv' w0 w' :=
  ⟨ho, h.bel.trans hb, hk bx _ h.box (by simp) (by intro c fz e; simp at e)⟩
theorem HAt.size {B bx : Nat} {v : Val} {l : List UInt8} {sv : Value} {w0 w : World} (h : HAt B bx v l sv w0 w) (hB : w0.heap.size = B) : B ≤ w.heap.size := by
  have := h.bel.size; omega
theorem byte_app (l r : List UInt8) : Lib.byteCells l ++ Lib.byteCells r = Lib.byteCells (l ++ r) := by unfold Lib.byteCells; rw [List.map_append]

/-- A byte behind the row. -/
theorem HAt.push {B bx : Nat} {v : Val} {l : List UInt8} {sv sv' : Value} {w0 w w' : World} (h : HAt B bx v l sv w0 w) (hB : w0.heap.size = B) (o : Obj)
    (ho : w'.ownsRow B 5 1 sv' (lenL l + 1) (Lib.byteCells l ++ [.int .u8 32])) (hg : (w.alloc o).grownBy w' sv.ownBlock) : HAt B bx v (l ++ [32]) sv' w0 w' := by
  have hz := h.size hB
  refine h.others ?_ ?_ ?_
  · rw [cells_snoc, show lenL (l ++ [32]) = lenL l + 1 by unfold lenL; simp]
    exact ho
  · exact ((Below.refl B w).alloc hz _).grown hg (by simp; omega) (fun k hk => (h.own.lt k hk).1)
  · exact ((Lib.OthersKept.refl _ _ w).alloc o).grown hg (Lib.ownsRow_kind (h.own.alloc o))
/-- A text behind the row. -/
theorem HAt.pushS {B bx : Nat} {v : Val} {l : List UInt8} {sv sv' : Value} {w0 w w' : World} (s : ByteArray) (h : HAt B bx v l sv w0 w) (hB : w0.heap.size = B)
    (ho : w'.ownsRow B 5 1 sv' (lenL l + s.size) (Lib.byteCells l ++ Lib.strCells s)) (hg : w.grownBy w' sv.ownBlock) : HAt B bx v (l ++ s.data.toList) sv' w0 w' := by
  have hz := h.size hB
  refine h.others ?_ ?_ ?_
  · rw [Lib.strCells_eq, byte_app] at ho
    rw [show lenL (l ++ s.data.toList) = lenL l + s.size by unfold lenL; rw [List.length_append, ← Lib.size_eq]]
    exact ho
  · exact (Below.refl B w).grown hg hz (fun k hk => (h.own.lt k hk).1)
  · exact (Lib.OthersKept.refl _ _ w).grown hg (Lib.ownsRow_kind h.own)
theorem tab_here {B : Nat} {w0 w : World} (ht : TabW w0) (hB : w0.heap.size = B) (hb : Below B w0 w) : Lib.TabBelow Tryd.prog B w "internal/strconv.uint64pow10" .u64 Lib.pow10Tab :=
  fun w' hw' => tab_from ht (hb.trans hw') (by omega)

/-- AppendInt at base 10, amid a round. -/
theorem HAt.int {B bx : Nat} {v : Val} {l : List UInt8} {sv : Value} {w0 w : World} (n : Int) (hn : inB n = true) (h : HAt B bx v l sv w0 w) (hB : w0.heap.size = B) (ht : TabW w0) (hl : l.length ≤ 100000000) :
    Calls Tryd.prog 39 #[sv, .int .i64 n, .int .i64 10] w fun e w' => ∃ sv', e = .returned sv' ∧ HAt B bx v (l ++ Lib.itoa n) sv' w0 w' := by
  have hb := (inB_iff n).1 hn
  refine (Tryd.strconv_AppendInt_10 B (lenL l) n hb.1 hb.2 sv _ w h.own (h.size hB) (by unfold lenL; omega) (tab_here ht hB h.bel)).mono ?_
  rintro e w' ⟨sv', rfl, ho, hbw, hk⟩
  refine ⟨sv', rfl, h.others ?_ hbw hk⟩
  rw [byte_app] at ho
  rw [show lenL (l ++ Lib.itoa n) = lenL l + (Lib.itoa n).length by unfold lenL; rw [List.length_append]]
  exact ho
/-- A row of bytes as a text. -/
theorem conv_row {B : Nat} {l : List UInt8} {sv : Value} {w : World} (h : w.ownsRow B 5 1 sv l.length (Lib.byteCells l)) : (convert 53 9 sv).run Tryd.prog w = .ok (.string ⟨l.toArray⟩) w := by
  rcases h.2 with ⟨rfl, h0⟩ | ⟨g, cap, cur, rfl, _⟩
  · have e : l = [] := List.length_eq_zero_iff.1 h0
    subst e
    rw [run_convert_bytes_string w 53 9 5 none 0 0 Tryd.underlying53 Tryd.underlying5 Tryd.underlying9]
    simp [Conv.bytesToString]
    rfl
  · refine run_convert_bytes_back (P := Tryd.prog) _ 53 9 5 ⟨g, 0, none⟩ cap l Tryd.underlying53 Tryd.underlying5 Tryd.underlying9 ?_
    intro j hj
    have := h.cellAt j (by omega)
    rw [Addr.add_lit, Nat.zero_add, this]
    unfold Lib.byteCells
    simp [hj]

theorem take_val {L : List Val} {n : Nat} {v : Val} (h : L[n]? = some v) : hashL (L.take (n + 1)) = hashL (L.take n) ++ hashOne v := by
  obtain ⟨hn, e⟩ := List.getElem?_eq_some_iff.1 h
  rw [List.take_succ_eq_append_getElem hn, hashL_snoc, e]
theorem take_vlen (L : List Val) (n : Nat) (h : ∀ v ∈ L, v.ok) (hn : L.length ≤ 100) : (hashL (L.take n)).length ≤ 10006600 := by
  have a := hashL_len (L.take n) (fun v hv => h v (List.mem_of_mem_take hv))
  have b : (L.take n).length ≤ L.length := List.length_take_le' _ _
  omega
theorem one_app (l : List UInt8) (v : Val) : l ++ Lib.itoa v.k ++ [32] ++ Lib.itoa v.i ++ [32] ++ Lib.itoa (v.s.size : Int) ++ [32] ++ v.s.data.toList = l ++ hashOne v := by
  unfold hashOne; simp only [List.append_assoc]

set_option maxHeartbeats 4000000 in
set_option maxRecDepth 100000 in
theorem hash_any (ao : Option Addr) (cap : Nat) (L : List Val) (w : World) (hv : IsVals w ao L) (hok : ∀ v ∈ L, v.ok) (hL : L.length ≤ 100) (ht : TabW w) :
    Calls Tryd.prog 32 #[.slice ao L.length cap] w fun e w' => e = .returned (.string (hashS L)) ∧ Below w.heap.size w w' := by
  obtain ⟨i0, hi, hz0, hz1, hz2⟩ := inU'
  obtain ⟨B, HB⟩ : ∃ B, Hid (w.heap.size = B) := ⟨_, rfl⟩
  have HV : Hid (IsVals w ao L) := hv
  have HK : Hid (∀ v ∈ L, v.ok) := hok
  have HT : Hid (TabW w) := ht
  clear hv hok ht
  go_enter Tryd.func32, Tryd.ntmps32
  go_wp2
  go_loopw [3, 8] (fun b i wr => ∃ n : Nat, n ≤ L.length ∧ i = .int .i64 n ∧ Hid (wr.ownsRow B 5 1 b (hashL (L.take n)).length (Lib.byteCells (hashL (L.take n)))) ∧ Hid (Below B w wr)) (fun _ i _ => L.length - (intOf i).toNat)
  case atStart => exact ⟨0, Nat.zero_le _, rfl, World.ownsRow_nil _ _ _ _, Below.refl _ _⟩
  case round =>
    obtain ⟨n, hn, rfl, HO, HW⟩ := hrel
    by_cases hlt : n < L.length
    · have hli : (n : Int) < (L.length : Int) := by omega
      obtain ⟨v, HG⟩ : ∃ v, Hid (L[n]? = some v) := ⟨_, List.getElem?_eq_getElem hlt⟩
      obtain ⟨b, o, rfl, c0, c1, c2⟩ := HV.out n v HG.out
      have c0' : wr.cell? ⟨b, o + n * 3, none⟩ = some (.int .i64 v.k) := by rw [HW.out.cell (by rw [← HB.out]; exact World.block_lt_of_cell? _ _ c0)]; exact c0
      have c1' : wr.cell? ⟨b, o + n * 3 + 1, none⟩ = some (.int .i64 v.i) := by rw [HW.out.cell (by rw [← HB.out]; exact World.block_lt_of_cell? _ _ c1)]; exact c1
      have c2' : wr.cell? ⟨b, o + n * 3 + 2, none⟩ = some (.string v.s) := by rw [HW.out.cell (by rw [← HB.out]; exact World.block_lt_of_cell? _ _ c2)]; exact c2
      clear c0 c1 c2
      have hvok := HK.out v (List.mem_of_getElem? HG.out)
      obtain ⟨l0, E0⟩ : ∃ l0, Hid (hashL (L.take n) = l0) := ⟨hashL (L.take n), by rw [Hid]⟩
      have E1 : Hid (hashL (L.take (n + 1)) = l0 ++ Lib.itoa v.k ++ [32] ++ Lib.itoa v.i ++ [32] ++ Lib.itoa (v.s.size : Int) ++ [32] ++ v.s.data.toList) := by
        rw [Hid, one_app, take_val HG.out, E0.out]
      have HI1 : Hid (inB v.k = true) := hvok.1
      have HI2 : Hid (inB v.i = true) := hvok.2.1
      have HI3 : Hid (inB (v.s.size : Int) = true) := size_inB v.s hvok.2.2
      have hsz : v.s.size ≤ 100000 := hvok.2.2
      have LE : Hid (l0.length ≤ 10006600 ∧ (Lib.itoa v.k).length ≤ 21 ∧ (Lib.itoa v.i).length ≤ 21 ∧ (Lib.itoa (v.s.size : Int)).length ≤ 21) :=
        ⟨by rw [← E0.out]; exact take_vlen L n HK.out hL, itoa_len _ hvok.1, itoa_len _ hvok.2.1, itoa_len _ (size_inB v.s hvok.2.2)⟩
      have G0 : Hid (l0.length ≤ 10006600) := LE.out.1
      clear hvok
      have HZ : Hid (B ≤ wr.heap.size) := by have := HW.out.size; have := HB.out; rw [Hid]; omega
      have H0 : HAt B wr.heap.size v l0 u3 w (wr.alloc (.cells #[.int .i64 v.k, .int .i64 v.i, .string v.s] 32)) :=
        ⟨by have h := HO.out; rw [E0.out] at h; exact h.alloc _, HW.out.alloc HZ.out _, alloc_at _ _⟩
      clear HO E0
      go_wp2_with fail
      refine (H0.int v.k HI1.out HB.out HT.out (by have := G0.out; omega)).mono ?_
      rintro e w1 ⟨s1, rfl, H1⟩
      obtain ⟨l1, F1, G1⟩ : ∃ l1, Hid (l0 ++ Lib.itoa v.k = l1) ∧ Hid (l1.length ≤ 10006630) := ⟨l0 ++ Lib.itoa v.k, by rw [Hid], by have := G0.out; have := LE.out.2.1; rw [Hid, List.length_append]; omega⟩
      rw [F1.out] at H1
      obtain ⟨a0, a1, a2⟩ := H1.cells
      clear H0 c0' c1' c2'
      go_wp2_with (at_builtin; refine wpList_append_own _ rfl _ _ 53 rfl B 5 i0 (.int .u8 0) 1 1 Tryd.underlying53 hi hz0 hz1 hz2 rfl (by decide) _ _ _ rfl (H1.own.alloc _) ⟨w1.heap.size, 0, none⟩ 1 1 [.int .u8 32] rfl rfl ?c1 ?c2 ?c3 ?c4 ?c5 ?_)
      case c1 =>
        intro j u hj
        match j, hj with
        | 0, hj => simp at hj; subst hj; simp [Addr.add]
      case c2 => intro u hu; simp at hu; subst hu; rfl
      case c3 => have := G1.out; unfold maxLen lenL; omega
      case c4 => have := G1.out; unfold lenL; omega
      case c5 => have := H1.size HB.out; simp; omega
      intro s2 w2 ho hg _
      have H2 := H1.push HB.out _ ho hg
      obtain ⟨l2, F2, G2⟩ : ∃ l2, Hid (l1 ++ [32] = l2) ∧ Hid (l2.length ≤ 10006660) := ⟨l1 ++ [32], by rw [Hid], by have := G1.out; rw [Hid, List.length_append, List.length_singleton]; omega⟩
      rw [F2.out] at H2
      obtain ⟨a0, a1, a2⟩ := H2.cells
      clear ho hg
      clear H1
      go_wp2_with fail
      refine (H2.int v.i HI2.out HB.out HT.out (by have := G2.out; omega)).mono ?_
      rintro e w3 ⟨s3, rfl, H3⟩
      obtain ⟨l3, F3, G3⟩ : ∃ l3, Hid (l2 ++ Lib.itoa v.i = l3) ∧ Hid (l3.length ≤ 10006690) := ⟨l2 ++ Lib.itoa v.i, by rw [Hid], by have := G2.out; have := LE.out.2.2.1; rw [Hid, List.length_append]; omega⟩
      rw [F3.out] at H3
      obtain ⟨a0, a1, a2⟩ := H3.cells
      clear H2
      go_wp2_with (at_builtin; refine wpList_append_own _ rfl _ _ 53 rfl B 5 i0 (.int .u8 0) 1 1 Tryd.underlying53 hi hz0 hz1 hz2 rfl (by decide) _ _ _ rfl (H3.own.alloc _) ⟨w3.heap.size, 0, none⟩ 1 1 [.int .u8 32] rfl rfl ?c1 ?c2 ?c3 ?c4 ?c5 ?_)
      case c1 =>
        intro j u hj
        match j, hj with
        | 0, hj => simp at hj; subst hj; simp [Addr.add]
      case c2 => intro u hu; simp at hu; subst hu; rfl
      case c3 => have := G3.out; unfold maxLen lenL; omega
      case c4 => have := G3.out; unfold lenL; omega
      case c5 => have := H3.size HB.out; simp; omega
      intro s4 w4 ho hg _
      have H4 := H3.push HB.out _ ho hg
      obtain ⟨l4, F4, G4⟩ : ∃ l4, Hid (l3 ++ [32] = l4) ∧ Hid (l4.length ≤ 10006720) := ⟨l3 ++ [32], by rw [Hid], by have := G3.out; rw [Hid, List.length_append, List.length_singleton]; omega⟩
      rw [F4.out] at H4
      obtain ⟨a0, a1, a2⟩ := H4.cells
      clear ho hg
      clear H3
      go_wp2_with fail
      refine (H4.int (v.s.size : Int) HI3.out HB.out HT.out (by have := G4.out; omega)).mono ?_
      rintro e w5 ⟨s5, rfl, H5⟩
      obtain ⟨l5, F5, G5⟩ : ∃ l5, Hid (l4 ++ Lib.itoa (v.s.size : Int) = l5) ∧ Hid (l5.length ≤ 10006750) := ⟨l4 ++ Lib.itoa (v.s.size : Int), by rw [Hid], by have := G4.out; have := LE.out.2.2.2; rw [Hid, List.length_append]; omega⟩
      rw [F5.out] at H5
      obtain ⟨a0, a1, a2⟩ := H5.cells
      clear H4
      go_wp2_with (at_builtin; refine wpList_append_own _ rfl _ _ 53 rfl B 5 i0 (.int .u8 0) 1 1 Tryd.underlying53 hi hz0 hz1 hz2 rfl (by decide) _ _ _ rfl (H5.own.alloc _) ⟨w5.heap.size, 0, none⟩ 1 1 [.int .u8 32] rfl rfl ?c1 ?c2 ?c3 ?c4 ?c5 ?_)
      case c1 =>
        intro j u hj
        match j, hj with
        | 0, hj => simp at hj; subst hj; simp [Addr.add]
      case c2 => intro u hu; simp at hu; subst hu; rfl
      case c3 => have := G5.out; unfold maxLen lenL; omega
      case c4 => have := G5.out; unfold lenL; omega
      case c5 => have := H5.size HB.out; simp; omega
      intro s6 w6 ho hg _
      have H6 := H5.push HB.out _ ho hg
      obtain ⟨l6, F6, G6⟩ : ∃ l6, Hid (l5 ++ [32] = l6) ∧ Hid (l6.length ≤ 10006780) := ⟨l5 ++ [32], by rw [Hid], by have := G5.out; rw [Hid, List.length_append, List.length_singleton]; omega⟩
      rw [F6.out] at H6
      obtain ⟨a0, a1, a2⟩ := H6.cells
      clear ho hg
      clear H5
      go_wp2_with (at_builtin; refine Lib.wpList_append_own_string _ rfl _ _ 53 9 rfl B 5 i0 Tryd.underlying53 Tryd.underlying9 hi hz0 hz1 hz2 _ _ _ rfl H6.own v.s rfl ?d1 ?d2 (H6.size HB.out) ?_)
      case d1 => have := G6.out; unfold maxLen lenL; omega
      case d2 => have := G6.out; unfold lenL; omega
      intro s7 w7 ho hg _
      have H7 := H6.pushS v.s HB.out ho hg
      clear ho hg H6
      go_wp2_with fail
      go_roundw
      case rel => exact ⟨n + 1, by omega, by go_num, by rw [Hid, E1.out, F1.out, F2.out, F3.out, F4.out, F5.out, F6.out]; exact H7.own, H7.bel⟩
      case measure => simp [intOf]; omega
    · have hli : ¬ (n : Int) < (L.length : Int) := by omega
      have HE : Hid (hashL (L.take n) = hashL L) := by rw [Hid, List.take_of_length_le (by omega)]
      have HC : (convert 53 9 u3).run Tryd.prog wr = .ok (.string (hashS L)) wr := by
        have h := HO.out
        rw [HE.out] at h
        exact conv_row h
      go_wp2
      go_ret
      refine ⟨rfl, ?_⟩
      rw [HB.out]
      exact HW.out
end Go.Proofs.YtgjnnahflaaagaaDoor
