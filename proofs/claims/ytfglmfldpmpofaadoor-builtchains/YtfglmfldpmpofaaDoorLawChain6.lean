/- The walk of BuiltChains. -/
import Derived.Test.YtfglmfldpmpofaaDoorLawType6
import Derived.BigRegion
namespace Go.Proofs.YtfglmfldpmpofaaDoor
open Go.RowKit

set_option maxRecDepth 100000 in
theorem and3 : ∀ n : Fin 256, bits BinOp.and IntKind.u8 ((n.val : Nat) : Int) 3 = ((n.val % 4 : Nat) : Int) := by decide
theorem and_cases {a : Int} (h : 0 ≤ a ∧ a < 256) : bits BinOp.and IntKind.u8 a 3 = 0 ∨ bits BinOp.and IntKind.u8 a 3 = 1 ∨ bits BinOp.and IntKind.u8 a 3 = 2 ∨ bits BinOp.and IntKind.u8 a 3 = 3 := by
  have e := and3 ⟨a.toNat, by omega⟩
  have e2 : ((a.toNat : Nat) : Int) = a := by omega
  rw [e2] at e
  rw [e]
  show ((a.toNat % 4 : Nat) : Int) = 0 ∨ ((a.toNat % 4 : Nat) : Int) = 1 ∨ ((a.toNat % 4 : Nat) : Int) = 2 ∨ ((a.toNat % 4 : Nat) : Int) = 3
  omega
theorem nums_of (l : List Int) : numsV (valsOf l) = l := by
  unfold numsV valsOf
  rw [List.map_map]
  exact List.map_id' l
theorem ints_of (l : List Int) : allInt (valsOf l) = true := by
  unfold allInt valsOf
  rw [List.all_eq_true]
  intro v hv
  obtain ⟨z, _, rfl⟩ := List.mem_map.1 hv
  rfl
theorem rights_of {l : List Int} (h : ∀ z ∈ l, inB z = true) : ∀ v ∈ valsOf l, rightV v := by
  intro v hv
  unfold valsOf at hv
  obtain ⟨z, hz, rfl⟩ := List.mem_map.1 hv
  exact right_i z (h z hz)
theorem ch_apply {s : ByteArray} {c : Nat} (hc : code s = c) (hcm : cmpC c = true) (hans : ∀ L, answerR c L = numbersR c L) (h21 : c ≠ 21) (hlo : loC c = 2) (hhi : hiC c = -1) {l : List Int} (h2 : 2 ≤ l.length) : applyR (code s) (valsOf l) = (⟨2, 0, boolS (chainB c l)⟩, 0) := by
  rw [hc]
  unfold applyR
  rw [if_neg h21, if_pos, hans]
  · unfold numbersR
    rw [if_pos (ints_of l), if_pos hcm, nums_of]
    rfl
  · unfold fitC
    rw [valsOf_len]
    exact decide_eq_true ⟨by omega, .inl (by omega)⟩
theorem chain_one (c : Nat) (l : List Int) : chainB c (l.take 1) = true := by
  cases l with
  | nil => rfl
  | cons a r => rfl

set_option maxHeartbeats 1000000 in
set_option maxRecDepth 8000 in
theorem chains_out (ao : Option Addr) (N cap : Nat) (a : Int) (w : World) (h : N < 2 ∨ 30 < N) (ht : TabW w) :
    Calls Tryd.prog 5 #[.slice ao N cap, .int .u8 a] w fun e w' => e = .returned (.bool true) ∧ Below w.heap.size w w' := by
  have HT : Hid (TabW w) := ht
  clear ht
  by_cases h1 : N < 2
  · have h1' : (N : Int) < 2 := by omega
    go_enter Tryd.func5, Tryd.ntmps5
    go_wp2_with fail
    refine (known6 _ HT.out).mono ?_
    rintro e w1 ⟨rfl, hb1⟩
    go_wp2
    go_ret
    exact ⟨rfl, hb1⟩
  · have h1' : ¬ (N : Int) < 2 := by omega
    have h2' : (30 : Int) < (N : Int) := by omega
    go_enter Tryd.func5, Tryd.ntmps5
    go_wp2_with fail
    refine (known6 _ HT.out).mono ?_
    rintro e w1 ⟨rfl, hb1⟩
    go_wp2
    go_ret
    exact ⟨rfl, hb1⟩

set_option maxHeartbeats 8000000 in
set_option maxRecDepth 100000 in
theorem chains_0 (ao : Option Addr) (N cap : Nat) (l : List Int) (a : Int) (w : World) (hwh : bits BinOp.and IntKind.u8 a 3 = 0) (h1 : 2 ≤ N) (h2 : N ≤ 30) (hN : l.length = N) (hv : IntsW w ao l) (hl : ∀ z ∈ l, inB z = true) (ht : TabW w) :
    Calls Tryd.prog 5 #[.slice ao N cap, .int .u8 a] w fun e w' => e = .returned (.bool true) ∧ Below w.heap.size w w' := by
  obtain ⟨i0, hi, hz0, hz1, hz2⟩ := infoVal'
  have HT : Hid (TabW w) := ht
  have HV : Hid (IntsW w ao l) := hv
  have HL : Hid (∀ z ∈ l, inB z = true) := hl
  have HN : Hid (l.length = N) := hN
  have h1' : ¬ (N : Int) < 2 := by omega
  have h2' : ¬ (30 : Int) < (N : Int) := by omega
  have HRf : Hid (∀ (k i : Int) (s : ByteArray) (w : World), Calls Tryd.prog 15 #[.agg #[.int .i64 (k), .int .i64 (i), .string (s)], .agg #[.int .i64 (k), .int .i64 (i), .string (s)]] w fun e w' => e = .returned (.bool true) ∧ Below w.heap.size w w') := by
    intro k i s w; rw [← sameB_refl k i s]; exact rsame_any k i k i s s w
  have HAp : Hid (applyR (code ⟨#[60]⟩) (valsOf l) = (⟨2, 0, boolS (chainB 3 l)⟩, 0)) := ch_apply (c := 3) (by decide) (by decide) (fun L => rfl) (by decide) (by decide) (by decide) (by rw [HN.out]; exact h1)
  clear ht hv hl hN
  go_enter Tryd.func5, Tryd.ntmps5
  go_wp2_with fail
  refine (known6 _ HT.out).mono ?_
  rintro e w1 ⟨rfl, hb1⟩
  have b1 : Hid (Below w.heap.size w (w1.alloc (.cells #[.string ⟨#[60]⟩, .string ⟨#[60, 61]⟩, .string ⟨#[62]⟩, .string ⟨#[62, 61]⟩] 9))) := next_trans' hb1 (alloc_below' _ _)
  clear hb1
  go_wp2
  go_loopw [6, 7, 8] (fun x p y wr => ∃ (n : Nat) (q : Bool), n ≤ N ∧ y = .int .i64 n ∧ p = .bool q ∧ Hid (wr.ownsRow w.heap.size 26 3 x n (valsC (valsOf (l.take n)))) ∧ Hid (Below w.heap.size w wr) ∧ Hid (chainB 3 (l.take n) = q)) (fun _ _ y _ => N - (intOf y).toNat)
  case atStart => exact ⟨0, true, Nat.zero_le _, rfl, rfl, World.ownsRow_nil _ _ _ _, b1, rfl⟩
  case round =>
    obtain ⟨n, q, hn, rfl, rfl, HO, HWr, HQ⟩ := hrel
    clear b1
    by_cases hlt : n < N
    · have hki : (n : Int) < (N : Int) := by omega
      obtain ⟨z, HG⟩ : ∃ z, Hid (l[n]? = some z) := ⟨_, List.getElem?_eq_getElem (by rw [HN.out]; exact hlt)⟩
      obtain ⟨b, o, rfl, cz⟩ := (HV.out.next HWr.out) n z HG.out
      go_wp2_with fail
      refine (rint_any z _).mono ?_
      rintro e w3 ⟨rfl, hb3⟩
      have HB3 : Hid (Below w.heap.size w w3) := next_trans' HWr.out hb3
      have HO3 : Hid (w3.ownsRow w.heap.size 26 3 u6 n (valsC (valsOf (l.take n)))) := bown_next HO.out hb3
      clear hb3 HO cz
      go_wp2_with (at_builtin; refine wpList_append_own _ rfl _ _ 22 rfl w.heap.size 26 i0 (.agg #[.int .i64 (0), .int .i64 (0), .string (⟨#[]⟩)]) 3 32 Tryd.underlying22 hi hz0 hz1 hz2 rfl (by decide) _ _ _ rfl (HO3.out.alloc _) ⟨w3.heap.size, 0, none⟩ 1 1 [.int .i64 1, .int .i64 z, .string ⟨#[]⟩] rfl rfl ?c1 ?c2 ?c3 ?c4 ?c5 ?_)
      case c1 =>
        intro j u hj
        match j, hj with
        | 0, hj => simp at hj; subst hj; simp [Addr.add]
        | 1, hj => simp at hj; subst hj; simp [Addr.add]
        | 2, hj => simp at hj; subst hj; simp [Addr.add]
      case c2 => intro u hu; simp at hu; rcases hu with rfl | rfl | rfl <;> rfl
      case c3 => unfold maxLen; omega
      case c4 => omega
      case c5 => have := HB3.out.size; simp; omega
      intro v' w4 ho hg _
      have HO4 : Hid (w4.ownsRow w.heap.size 26 3 v' (n + 1) (valsC (valsOf (l.take (n + 1))))) := by
        rw [Hid, valsOf_take HG.out, ← valsC_app]; exact ho
      have HB4 : Hid (Below w.heap.size w w4) := by
        have hs := HB3.out.size
        refine HB3.out.trans (((Below.refl _ w3).alloc hs _).grown hg (by simp; omega) (fun q hq => ?_))
        exact (HO3.out.lt q hq).1
      clear ho hg HO3 HB3
      by_cases hz : n = 0
      · have hz' : ¬ (0 : Int) < (n : Int) := by omega
        have HQ2 : Hid (chainB 3 (l.take (n + 1)) = q) := by
          subst hz
          rw [Hid, chain_one]
          exact HQ.out
        clear hz
        go_wp2
        go_roundw
        case rel => exact ⟨n + 1, q, by omega, by go_num, rfl, HO4, HB4, HQ2⟩
        case measure => simp [intOf]; omega
      · obtain ⟨m, rfl⟩ : ∃ m, n = m + 1 := ⟨n - 1, by omega⟩
        obtain ⟨y, HGy⟩ : ∃ y, Hid (l[m]? = some y) := ⟨_, List.getElem?_eq_getElem (by rw [HN.out]; omega)⟩
        obtain ⟨b', o', eo, cy⟩ := (HV.out.next HB4.out) m y HGy.out
        obtain ⟨rfl, rfl⟩ : b' = b ∧ o' = o := by injection eo with e; injection e with e1 e2; exact ⟨e1.symm, e2.symm⟩
        obtain ⟨b2, o2, eo2, cz⟩ := (HV.out.next HB4.out) (m + 1) z HG.out
        obtain ⟨rfl, rfl⟩ : b2 = b' ∧ o2 = o' := by injection eo2 with e; injection e with e1 e2; exact ⟨e1.symm, e2.symm⟩
        have hz' : (0 : Int) < ((m + 1 : Nat) : Int) := by omega
        have hm0 : (0 : Int) ≤ (m : Int) := by omega
        have hm1 : (m : Int) < (N : Int) := by omega
        have hm2 : (m : Int) + 1 < (N : Int) := by omega
        have hm3 : (0 : Int) ≤ (m : Int) + 1 := by omega
        have hwm : IntKind.i64.wrap (m : Int) = (m : Int) := by rw [IntKind.wrap_i64]; omega
        have HQ2 : Hid (chainB 3 (l.take (m + 2)) = (q && standB 3 y z)) := by rw [Hid, chain_take _ _ m y z HGy.out HG.out, HQ.out]
        clear eo eo2
        cases q
        · go_wp2
          go_quiet (fail)
          go_wp2
          go_roundw
          case rel => exact ⟨m + 2, false, by omega, by go_num, rfl, HO4, HB4.out.trans ((show SameW w4 (w4.drewN _) from ⟨_, rfl⟩).below _), HQ2⟩
          case measure => simp [intOf]; omega
        · go_wp2
          refine wp_region_held_drew (S := (fun w' => w'.cell? ⟨b2, o2 + m, none⟩ = some (.int .i64 y) ∧ w'.cell? ⟨b2, o2 + (m + 1), none⟩ = some (.int .i64 z) ∧ Below w4.heap.size w4 w' ∧ w4.heap.size ≤ w'.heap.size)) (by kernel_rfl) ?_ (fun hHeldR => ?_)
          · exact ⟨cy, cz, (Below.refl _ _).drew, Nat.le_refl _⟩
          refine wpAnyH_take (i := 0) (oi := { dst := some 42, op := Op.move (Operand.tmp 7), type := 4, pos := "law.go:78", after := #[], guard := none }) (v := ?_) rfl (by kernel_rfl) (by kernel_rfl) (by kernel_rfl) (fun _ _ _ h => h) (Or.inl ⟨by rfl, ?hyR0⟩) (by assumption) ?_
          case hyR0 => (intro w hSw; (try dsimp only at hSw); go_simp; try with_reducible rfl)
          (try simp only [Act.put, List.setIfInBounds_toArray, List.set_cons_zero, List.set_cons_succ])
          refine wpAnyH_take (i := 1) (oi := { dst := some 43, op := Op.move (Operand.tmp 42), type := 4, pos := "law.go:78", after := #[{ on := 0, ground := Ground.data }], guard := none }) (v := ?_) rfl (by kernel_rfl) (by kernel_rfl) (by kernel_rfl) (fun _ _ _ h => h) (Or.inl ⟨by rfl, ?hyR1⟩) (by assumption) ?_
          case hyR1 => (intro w hSw; (try dsimp only at hSw); go_simp; try with_reducible rfl)
          (try simp only [Act.put, List.setIfInBounds_toArray, List.set_cons_zero, List.set_cons_succ])
          refine wpAnyH_take (i := 2) (oi := { dst := some 44, op := Op.move (Operand.tmp 0), type := 40, pos := "law.go:78", after := #[{ on := 1, ground := Ground.guard }], guard := some (1, true) }) (v := ?_) rfl (by kernel_rfl) (by kernel_rfl) (by kernel_rfl) (fun _ _ _ h => h) (Or.inl ⟨by rfl, ?hyR2⟩) (by assumption) ?_
          case hyR2 => (intro w hSw; (try dsimp only at hSw); go_simp; try with_reducible rfl)
          (try simp only [Act.put, List.setIfInBounds_toArray, List.set_cons_zero, List.set_cons_succ])
          refine wpAnyH_take (i := 3) (oi := { dst := some 45, op := Op.move (Operand.tmp 8), type := 3, pos := "law.go:78", after := #[{ on := 1, ground := Ground.guard }], guard := some (1, true) }) (v := ?_) rfl (by kernel_rfl) (by kernel_rfl) (by kernel_rfl) (fun _ _ _ h => h) (Or.inl ⟨by rfl, ?hyR3⟩) (by assumption) ?_
          case hyR3 => (intro w hSw; (try dsimp only at hSw); go_simp; try with_reducible rfl)
          (try simp only [Act.put, List.setIfInBounds_toArray, List.set_cons_zero, List.set_cons_succ])
          refine wpAnyH_take (i := 4) (oi := { dst := some 46, op := Op.binOp BinOp.sub 3 (Operand.tmp 45) (Operand.const (Value.int IntKind.i64 1)) 3, type := 3, pos := "law.go:78", after := #[{ on := 3, ground := Ground.data }, { on := 1, ground := Ground.guard }], guard := some (1, true) }) (v := ?_) rfl (by kernel_rfl) (by kernel_rfl) (by kernel_rfl) (fun _ _ _ h => h) (Or.inl ⟨by rfl, ?hyR4⟩) (by assumption) ?_
          case hyR4 => (intro w hSw; (try dsimp only at hSw); go_simp; try with_reducible rfl)
          (try simp only [Act.put, List.setIfInBounds_toArray, List.set_cons_zero, List.set_cons_succ])
          refine wpAnyH_take (i := 5) (oi := { dst := some 47, op := Op.indexAddr 40 (Operand.tmp 44) (Operand.tmp 46), type := 0, pos := "law.go:78", after := #[{ on := 2, ground := Ground.data }, { on := 4, ground := Ground.data }, { on := 1, ground := Ground.guard }], guard := some (1, true) }) (v := ?_) rfl (by kernel_rfl) (by kernel_rfl) (by kernel_rfl) (fun _ _ _ h => h) (Or.inl ⟨by rfl, ?hyR5⟩) (by assumption) ?_
          case hyR5 => (intro w hSw; (try dsimp only at hSw); go_simp; try with_reducible rfl)
          (try simp only [Act.put, List.setIfInBounds_toArray, List.set_cons_zero, List.set_cons_succ])
          refine wpAnyH_take (i := 6) (oi := { dst := some 48, op := Op.load 2 (Operand.tmp 47), type := 2, pos := "law.go:78", after := #[{ on := 5, ground := Ground.data }, { on := 1, ground := Ground.guard }], guard := some (1, true) }) (v := ?_) rfl (by kernel_rfl) (by kernel_rfl) (by kernel_rfl) (fun _ _ _ h => h) (Or.inl ⟨by rfl, ?hyR6⟩) (by assumption) ?_
          case hyR6 => (intro w hSw; (try dsimp only at hSw); go_simp; try with_reducible rfl)
          (try simp only [Act.put, List.setIfInBounds_toArray, List.set_cons_zero, List.set_cons_succ])
          refine wpAnyH_take (i := 7) (oi := { dst := some 49, op := Op.move (Operand.tmp 0), type := 40, pos := "law.go:78", after := #[{ on := 1, ground := Ground.guard }], guard := some (1, true) }) (v := ?_) rfl (by kernel_rfl) (by kernel_rfl) (by kernel_rfl) (fun _ _ _ h => h) (Or.inl ⟨by rfl, ?hyR7⟩) (by assumption) ?_
          case hyR7 => (intro w hSw; (try dsimp only at hSw); go_simp; try with_reducible rfl)
          (try simp only [Act.put, List.setIfInBounds_toArray, List.set_cons_zero, List.set_cons_succ])
          refine wpAnyH_take (i := 8) (oi := { dst := some 50, op := Op.move (Operand.tmp 8), type := 3, pos := "law.go:78", after := #[{ on := 1, ground := Ground.guard }], guard := some (1, true) }) (v := ?_) rfl (by kernel_rfl) (by kernel_rfl) (by kernel_rfl) (fun _ _ _ h => h) (Or.inl ⟨by rfl, ?hyR8⟩) (by assumption) ?_
          case hyR8 => (intro w hSw; (try dsimp only at hSw); go_simp; try with_reducible rfl)
          (try simp only [Act.put, List.setIfInBounds_toArray, List.set_cons_zero, List.set_cons_succ])
          refine wpAnyH_take (i := 9) (oi := { dst := some 51, op := Op.indexAddr 40 (Operand.tmp 49) (Operand.tmp 50), type := 0, pos := "law.go:78", after := #[{ on := 7, ground := Ground.data }, { on := 8, ground := Ground.data }, { on := 1, ground := Ground.guard }], guard := some (1, true) }) (v := ?_) rfl (by kernel_rfl) (by kernel_rfl) (by kernel_rfl) (fun _ _ _ h => h) (Or.inl ⟨by rfl, ?hyR9⟩) (by assumption) ?_
          case hyR9 => (intro w hSw; (try dsimp only at hSw); go_simp; try with_reducible rfl)
          (try simp only [Act.put, List.setIfInBounds_toArray, List.set_cons_zero, List.set_cons_succ])
          refine wpAnyH_take (i := 10) (oi := { dst := some 52, op := Op.load 2 (Operand.tmp 51), type := 2, pos := "law.go:78", after := #[{ on := 9, ground := Ground.data }, { on := 1, ground := Ground.guard }], guard := some (1, true) }) (v := ?_) rfl (by kernel_rfl) (by kernel_rfl) (by kernel_rfl) (fun _ _ _ h => h) (Or.inl ⟨by rfl, ?hyR10⟩) (by assumption) ?_
          case hyR10 => (intro w hSw; (try dsimp only at hSw); go_simp; try with_reducible rfl)
          (try simp only [Act.put, List.setIfInBounds_toArray, List.set_cons_zero, List.set_cons_succ])
          refine wpAnyH_take (i := 11) (oi := { dst := some 53, op := Op.binOp BinOp.lss 2 (Operand.tmp 48) (Operand.tmp 52) 2, type := 4, pos := "law.go:78", after := #[{ on := 6, ground := Ground.data }, { on := 10, ground := Ground.data }, { on := 1, ground := Ground.guard }], guard := some (1, true) }) (v := ?_) rfl (by kernel_rfl) (by kernel_rfl) (by kernel_rfl) (fun _ _ _ h => h) (Or.inl ⟨by rfl, ?hyR11⟩) (by assumption) ?_
          case hyR11 => (intro w hSw; (try dsimp only at hSw); go_simp; try with_reducible rfl)
          (try simp only [Act.put, List.setIfInBounds_toArray, List.set_cons_zero, List.set_cons_succ])
          refine wpAnyH_take (i := 12) (oi := { dst := some 54, op := Op.move (Operand.tmp 0), type := 40, pos := "law.go:78", after := #[{ on := 1, ground := Ground.guard }], guard := some (1, true) }) (v := ?_) rfl (by kernel_rfl) (by kernel_rfl) (by kernel_rfl) (fun _ _ _ h => h) (Or.inl ⟨by rfl, ?hyR12⟩) (by assumption) ?_
          case hyR12 => (intro w hSw; (try dsimp only at hSw); go_simp; try with_reducible rfl)
          (try simp only [Act.put, List.setIfInBounds_toArray, List.set_cons_zero, List.set_cons_succ])
          refine wpAnyH_take (i := 13) (oi := { dst := some 55, op := Op.move (Operand.tmp 8), type := 3, pos := "law.go:78", after := #[{ on := 1, ground := Ground.guard }], guard := some (1, true) }) (v := ?_) rfl (by kernel_rfl) (by kernel_rfl) (by kernel_rfl) (fun _ _ _ h => h) (Or.inl ⟨by rfl, ?hyR13⟩) (by assumption) ?_
          case hyR13 => (intro w hSw; (try dsimp only at hSw); go_simp; try with_reducible rfl)
          (try simp only [Act.put, List.setIfInBounds_toArray, List.set_cons_zero, List.set_cons_succ])
          refine wpAnyH_take (i := 14) (oi := { dst := some 56, op := Op.binOp BinOp.sub 3 (Operand.tmp 55) (Operand.const (Value.int IntKind.i64 1)) 3, type := 3, pos := "law.go:78", after := #[{ on := 13, ground := Ground.data }, { on := 1, ground := Ground.guard }], guard := some (1, true) }) (v := ?_) rfl (by kernel_rfl) (by kernel_rfl) (by kernel_rfl) (fun _ _ _ h => h) (Or.inl ⟨by rfl, ?hyR14⟩) (by assumption) ?_
          case hyR14 => (intro w hSw; (try dsimp only at hSw); go_simp; try with_reducible rfl)
          (try simp only [Act.put, List.setIfInBounds_toArray, List.set_cons_zero, List.set_cons_succ])
          refine wpAnyH_take (i := 15) (oi := { dst := some 57, op := Op.indexAddr 40 (Operand.tmp 54) (Operand.tmp 56), type := 0, pos := "law.go:78", after := #[{ on := 12, ground := Ground.data }, { on := 14, ground := Ground.data }, { on := 1, ground := Ground.guard }], guard := some (1, true) }) (v := ?_) rfl (by kernel_rfl) (by kernel_rfl) (by kernel_rfl) (fun _ _ _ h => h) (Or.inl ⟨by rfl, ?hyR15⟩) (by assumption) ?_
          case hyR15 => (intro w hSw; (try dsimp only at hSw); go_simp; try with_reducible rfl)
          (try simp only [Act.put, List.setIfInBounds_toArray, List.set_cons_zero, List.set_cons_succ])
          refine wpAnyH_take (i := 16) (oi := { dst := some 58, op := Op.load 2 (Operand.tmp 57), type := 2, pos := "law.go:78", after := #[{ on := 15, ground := Ground.data }, { on := 1, ground := Ground.guard }], guard := some (1, true) }) (v := ?_) rfl (by kernel_rfl) (by kernel_rfl) (by kernel_rfl) (fun _ _ _ h => h) (Or.inl ⟨by rfl, ?hyR16⟩) (by assumption) ?_
          case hyR16 => (intro w hSw; (try dsimp only at hSw); go_simp; try with_reducible rfl)
          (try simp only [Act.put, List.setIfInBounds_toArray, List.set_cons_zero, List.set_cons_succ])
          refine wpAnyH_take (i := 17) (oi := { dst := some 59, op := Op.move (Operand.tmp 0), type := 40, pos := "law.go:78", after := #[{ on := 1, ground := Ground.guard }], guard := some (1, true) }) (v := ?_) rfl (by kernel_rfl) (by kernel_rfl) (by kernel_rfl) (fun _ _ _ h => h) (Or.inl ⟨by rfl, ?hyR17⟩) (by assumption) ?_
          case hyR17 => (intro w hSw; (try dsimp only at hSw); go_simp; try with_reducible rfl)
          (try simp only [Act.put, List.setIfInBounds_toArray, List.set_cons_zero, List.set_cons_succ])
          refine wpAnyH_take (i := 18) (oi := { dst := some 60, op := Op.move (Operand.tmp 8), type := 3, pos := "law.go:78", after := #[{ on := 1, ground := Ground.guard }], guard := some (1, true) }) (v := ?_) rfl (by kernel_rfl) (by kernel_rfl) (by kernel_rfl) (fun _ _ _ h => h) (Or.inl ⟨by rfl, ?hyR18⟩) (by assumption) ?_
          case hyR18 => (intro w hSw; (try dsimp only at hSw); go_simp; try with_reducible rfl)
          (try simp only [Act.put, List.setIfInBounds_toArray, List.set_cons_zero, List.set_cons_succ])
          refine wpAnyH_take (i := 19) (oi := { dst := some 61, op := Op.indexAddr 40 (Operand.tmp 59) (Operand.tmp 60), type := 0, pos := "law.go:78", after := #[{ on := 17, ground := Ground.data }, { on := 18, ground := Ground.data }, { on := 1, ground := Ground.guard }], guard := some (1, true) }) (v := ?_) rfl (by kernel_rfl) (by kernel_rfl) (by kernel_rfl) (fun _ _ _ h => h) (Or.inl ⟨by rfl, ?hyR19⟩) (by assumption) ?_
          case hyR19 => (intro w hSw; (try dsimp only at hSw); go_simp; try with_reducible rfl)
          (try simp only [Act.put, List.setIfInBounds_toArray, List.set_cons_zero, List.set_cons_succ])
          refine wpAnyH_take (i := 20) (oi := { dst := some 62, op := Op.load 2 (Operand.tmp 61), type := 2, pos := "law.go:78", after := #[{ on := 19, ground := Ground.data }, { on := 1, ground := Ground.guard }], guard := some (1, true) }) (v := ?_) rfl (by kernel_rfl) (by kernel_rfl) (by kernel_rfl) (fun _ _ _ h => h) (Or.inl ⟨by rfl, ?hyR20⟩) (by assumption) ?_
          case hyR20 => (intro w hSw; (try dsimp only at hSw); go_simp; try with_reducible rfl)
          (try simp only [Act.put, List.setIfInBounds_toArray, List.set_cons_zero, List.set_cons_succ])
          refine wpAnyH_take (i := 21) (oi := { dst := some 63, op := Op.binOp BinOp.leq 2 (Operand.tmp 58) (Operand.tmp 62) 2, type := 4, pos := "law.go:78", after := #[{ on := 16, ground := Ground.data }, { on := 20, ground := Ground.data }, { on := 1, ground := Ground.guard }], guard := some (1, true) }) (v := ?_) rfl (by kernel_rfl) (by kernel_rfl) (by kernel_rfl) (fun _ _ _ h => h) (Or.inl ⟨by rfl, ?hyR21⟩) (by assumption) ?_
          case hyR21 => (intro w hSw; (try dsimp only at hSw); go_simp; try with_reducible rfl)
          (try simp only [Act.put, List.setIfInBounds_toArray, List.set_cons_zero, List.set_cons_succ])
          refine wpAnyH_take (i := 22) (oi := { dst := some 64, op := Op.move (Operand.tmp 0), type := 40, pos := "law.go:78", after := #[{ on := 1, ground := Ground.guard }], guard := some (1, true) }) (v := ?_) rfl (by kernel_rfl) (by kernel_rfl) (by kernel_rfl) (fun _ _ _ h => h) (Or.inl ⟨by rfl, ?hyR22⟩) (by assumption) ?_
          case hyR22 => (intro w hSw; (try dsimp only at hSw); go_simp; try with_reducible rfl)
          (try simp only [Act.put, List.setIfInBounds_toArray, List.set_cons_zero, List.set_cons_succ])
          refine wpAnyH_take (i := 23) (oi := { dst := some 65, op := Op.move (Operand.tmp 8), type := 3, pos := "law.go:78", after := #[{ on := 1, ground := Ground.guard }], guard := some (1, true) }) (v := ?_) rfl (by kernel_rfl) (by kernel_rfl) (by kernel_rfl) (fun _ _ _ h => h) (Or.inl ⟨by rfl, ?hyR23⟩) (by assumption) ?_
          case hyR23 => (intro w hSw; (try dsimp only at hSw); go_simp; try with_reducible rfl)
          (try simp only [Act.put, List.setIfInBounds_toArray, List.set_cons_zero, List.set_cons_succ])
          refine wpAnyH_take (i := 24) (oi := { dst := some 66, op := Op.binOp BinOp.sub 3 (Operand.tmp 65) (Operand.const (Value.int IntKind.i64 1)) 3, type := 3, pos := "law.go:78", after := #[{ on := 23, ground := Ground.data }, { on := 1, ground := Ground.guard }], guard := some (1, true) }) (v := ?_) rfl (by kernel_rfl) (by kernel_rfl) (by kernel_rfl) (fun _ _ _ h => h) (Or.inl ⟨by rfl, ?hyR24⟩) (by assumption) ?_
          case hyR24 => (intro w hSw; (try dsimp only at hSw); go_simp; try with_reducible rfl)
          (try simp only [Act.put, List.setIfInBounds_toArray, List.set_cons_zero, List.set_cons_succ])
          refine wpAnyH_take (i := 25) (oi := { dst := some 67, op := Op.indexAddr 40 (Operand.tmp 64) (Operand.tmp 66), type := 0, pos := "law.go:78", after := #[{ on := 22, ground := Ground.data }, { on := 24, ground := Ground.data }, { on := 1, ground := Ground.guard }], guard := some (1, true) }) (v := ?_) rfl (by kernel_rfl) (by kernel_rfl) (by kernel_rfl) (fun _ _ _ h => h) (Or.inl ⟨by rfl, ?hyR25⟩) (by assumption) ?_
          case hyR25 => (intro w hSw; (try dsimp only at hSw); go_simp; try with_reducible rfl)
          (try simp only [Act.put, List.setIfInBounds_toArray, List.set_cons_zero, List.set_cons_succ])
          refine wpAnyH_take (i := 26) (oi := { dst := some 68, op := Op.load 2 (Operand.tmp 67), type := 2, pos := "law.go:78", after := #[{ on := 25, ground := Ground.data }, { on := 1, ground := Ground.guard }], guard := some (1, true) }) (v := ?_) rfl (by kernel_rfl) (by kernel_rfl) (by kernel_rfl) (fun _ _ _ h => h) (Or.inl ⟨by rfl, ?hyR26⟩) (by assumption) ?_
          case hyR26 => (intro w hSw; (try dsimp only at hSw); go_simp; try with_reducible rfl)
          (try simp only [Act.put, List.setIfInBounds_toArray, List.set_cons_zero, List.set_cons_succ])
          refine wpAnyH_take (i := 27) (oi := { dst := some 69, op := Op.move (Operand.tmp 0), type := 40, pos := "law.go:78", after := #[{ on := 1, ground := Ground.guard }], guard := some (1, true) }) (v := ?_) rfl (by kernel_rfl) (by kernel_rfl) (by kernel_rfl) (fun _ _ _ h => h) (Or.inl ⟨by rfl, ?hyR27⟩) (by assumption) ?_
          case hyR27 => (intro w hSw; (try dsimp only at hSw); go_simp; try with_reducible rfl)
          (try simp only [Act.put, List.setIfInBounds_toArray, List.set_cons_zero, List.set_cons_succ])
          refine wpAnyH_take (i := 28) (oi := { dst := some 70, op := Op.move (Operand.tmp 8), type := 3, pos := "law.go:78", after := #[{ on := 1, ground := Ground.guard }], guard := some (1, true) }) (v := ?_) rfl (by kernel_rfl) (by kernel_rfl) (by kernel_rfl) (fun _ _ _ h => h) (Or.inl ⟨by rfl, ?hyR28⟩) (by assumption) ?_
          case hyR28 => (intro w hSw; (try dsimp only at hSw); go_simp; try with_reducible rfl)
          (try simp only [Act.put, List.setIfInBounds_toArray, List.set_cons_zero, List.set_cons_succ])
          refine wpAnyH_take (i := 29) (oi := { dst := some 71, op := Op.indexAddr 40 (Operand.tmp 69) (Operand.tmp 70), type := 0, pos := "law.go:78", after := #[{ on := 27, ground := Ground.data }, { on := 28, ground := Ground.data }, { on := 1, ground := Ground.guard }], guard := some (1, true) }) (v := ?_) rfl (by kernel_rfl) (by kernel_rfl) (by kernel_rfl) (fun _ _ _ h => h) (Or.inl ⟨by rfl, ?hyR29⟩) (by assumption) ?_
          case hyR29 => (intro w hSw; (try dsimp only at hSw); go_simp; try with_reducible rfl)
          (try simp only [Act.put, List.setIfInBounds_toArray, List.set_cons_zero, List.set_cons_succ])
          refine wpAnyH_take (i := 30) (oi := { dst := some 72, op := Op.load 2 (Operand.tmp 71), type := 2, pos := "law.go:78", after := #[{ on := 29, ground := Ground.data }, { on := 1, ground := Ground.guard }], guard := some (1, true) }) (v := ?_) rfl (by kernel_rfl) (by kernel_rfl) (by kernel_rfl) (fun _ _ _ h => h) (Or.inl ⟨by rfl, ?hyR30⟩) (by assumption) ?_
          case hyR30 => (intro w hSw; (try dsimp only at hSw); go_simp; try with_reducible rfl)
          (try simp only [Act.put, List.setIfInBounds_toArray, List.set_cons_zero, List.set_cons_succ])
          refine wpAnyH_take (i := 31) (oi := { dst := some 73, op := Op.binOp BinOp.gtr 2 (Operand.tmp 68) (Operand.tmp 72) 2, type := 4, pos := "law.go:78", after := #[{ on := 26, ground := Ground.data }, { on := 30, ground := Ground.data }, { on := 1, ground := Ground.guard }], guard := some (1, true) }) (v := ?_) rfl (by kernel_rfl) (by kernel_rfl) (by kernel_rfl) (fun _ _ _ h => h) (Or.inl ⟨by rfl, ?hyR31⟩) (by assumption) ?_
          case hyR31 => (intro w hSw; (try dsimp only at hSw); go_simp; try with_reducible rfl)
          (try simp only [Act.put, List.setIfInBounds_toArray, List.set_cons_zero, List.set_cons_succ])
          refine wpAnyH_take (i := 32) (oi := { dst := some 74, op := Op.move (Operand.tmp 0), type := 40, pos := "law.go:78", after := #[{ on := 1, ground := Ground.guard }], guard := some (1, true) }) (v := ?_) rfl (by kernel_rfl) (by kernel_rfl) (by kernel_rfl) (fun _ _ _ h => h) (Or.inl ⟨by rfl, ?hyR32⟩) (by assumption) ?_
          case hyR32 => (intro w hSw; (try dsimp only at hSw); go_simp; try with_reducible rfl)
          (try simp only [Act.put, List.setIfInBounds_toArray, List.set_cons_zero, List.set_cons_succ])
          refine wpAnyH_take (i := 33) (oi := { dst := some 75, op := Op.move (Operand.tmp 8), type := 3, pos := "law.go:78", after := #[{ on := 1, ground := Ground.guard }], guard := some (1, true) }) (v := ?_) rfl (by kernel_rfl) (by kernel_rfl) (by kernel_rfl) (fun _ _ _ h => h) (Or.inl ⟨by rfl, ?hyR33⟩) (by assumption) ?_
          case hyR33 => (intro w hSw; (try dsimp only at hSw); go_simp; try with_reducible rfl)
          (try simp only [Act.put, List.setIfInBounds_toArray, List.set_cons_zero, List.set_cons_succ])
          refine wpAnyH_take (i := 34) (oi := { dst := some 76, op := Op.binOp BinOp.sub 3 (Operand.tmp 75) (Operand.const (Value.int IntKind.i64 1)) 3, type := 3, pos := "law.go:78", after := #[{ on := 33, ground := Ground.data }, { on := 1, ground := Ground.guard }], guard := some (1, true) }) (v := ?_) rfl (by kernel_rfl) (by kernel_rfl) (by kernel_rfl) (fun _ _ _ h => h) (Or.inl ⟨by rfl, ?hyR34⟩) (by assumption) ?_
          case hyR34 => (intro w hSw; (try dsimp only at hSw); go_simp; try with_reducible rfl)
          (try simp only [Act.put, List.setIfInBounds_toArray, List.set_cons_zero, List.set_cons_succ])
          refine wpAnyH_take (i := 35) (oi := { dst := some 77, op := Op.indexAddr 40 (Operand.tmp 74) (Operand.tmp 76), type := 0, pos := "law.go:78", after := #[{ on := 32, ground := Ground.data }, { on := 34, ground := Ground.data }, { on := 1, ground := Ground.guard }], guard := some (1, true) }) (v := ?_) rfl (by kernel_rfl) (by kernel_rfl) (by kernel_rfl) (fun _ _ _ h => h) (Or.inl ⟨by rfl, ?hyR35⟩) (by assumption) ?_
          case hyR35 => (intro w hSw; (try dsimp only at hSw); go_simp; try with_reducible rfl)
          (try simp only [Act.put, List.setIfInBounds_toArray, List.set_cons_zero, List.set_cons_succ])
          refine wpAnyH_take (i := 36) (oi := { dst := some 78, op := Op.load 2 (Operand.tmp 77), type := 2, pos := "law.go:78", after := #[{ on := 35, ground := Ground.data }, { on := 1, ground := Ground.guard }], guard := some (1, true) }) (v := ?_) rfl (by kernel_rfl) (by kernel_rfl) (by kernel_rfl) (fun _ _ _ h => h) (Or.inl ⟨by rfl, ?hyR36⟩) (by assumption) ?_
          case hyR36 => (intro w hSw; (try dsimp only at hSw); go_simp; try with_reducible rfl)
          (try simp only [Act.put, List.setIfInBounds_toArray, List.set_cons_zero, List.set_cons_succ])
          refine wpAnyH_take (i := 37) (oi := { dst := some 79, op := Op.move (Operand.tmp 0), type := 40, pos := "law.go:78", after := #[{ on := 1, ground := Ground.guard }], guard := some (1, true) }) (v := ?_) rfl (by kernel_rfl) (by kernel_rfl) (by kernel_rfl) (fun _ _ _ h => h) (Or.inl ⟨by rfl, ?hyR37⟩) (by assumption) ?_
          case hyR37 => (intro w hSw; (try dsimp only at hSw); go_simp; try with_reducible rfl)
          (try simp only [Act.put, List.setIfInBounds_toArray, List.set_cons_zero, List.set_cons_succ])
          refine wpAnyH_take (i := 38) (oi := { dst := some 80, op := Op.move (Operand.tmp 8), type := 3, pos := "law.go:78", after := #[{ on := 1, ground := Ground.guard }], guard := some (1, true) }) (v := ?_) rfl (by kernel_rfl) (by kernel_rfl) (by kernel_rfl) (fun _ _ _ h => h) (Or.inl ⟨by rfl, ?hyR38⟩) (by assumption) ?_
          case hyR38 => (intro w hSw; (try dsimp only at hSw); go_simp; try with_reducible rfl)
          (try simp only [Act.put, List.setIfInBounds_toArray, List.set_cons_zero, List.set_cons_succ])
          refine wpAnyH_take (i := 39) (oi := { dst := some 81, op := Op.indexAddr 40 (Operand.tmp 79) (Operand.tmp 80), type := 0, pos := "law.go:78", after := #[{ on := 37, ground := Ground.data }, { on := 38, ground := Ground.data }, { on := 1, ground := Ground.guard }], guard := some (1, true) }) (v := ?_) rfl (by kernel_rfl) (by kernel_rfl) (by kernel_rfl) (fun _ _ _ h => h) (Or.inl ⟨by rfl, ?hyR39⟩) (by assumption) ?_
          case hyR39 => (intro w hSw; (try dsimp only at hSw); go_simp; try with_reducible rfl)
          (try simp only [Act.put, List.setIfInBounds_toArray, List.set_cons_zero, List.set_cons_succ])
          refine wpAnyH_take (i := 40) (oi := { dst := some 82, op := Op.load 2 (Operand.tmp 81), type := 2, pos := "law.go:78", after := #[{ on := 39, ground := Ground.data }, { on := 1, ground := Ground.guard }], guard := some (1, true) }) (v := ?_) rfl (by kernel_rfl) (by kernel_rfl) (by kernel_rfl) (fun _ _ _ h => h) (Or.inl ⟨by rfl, ?hyR40⟩) (by assumption) ?_
          case hyR40 => (intro w hSw; (try dsimp only at hSw); go_simp; try with_reducible rfl)
          (try simp only [Act.put, List.setIfInBounds_toArray, List.set_cons_zero, List.set_cons_succ])
          refine wpAnyH_take (i := 41) (oi := { dst := some 83, op := Op.binOp BinOp.geq 2 (Operand.tmp 78) (Operand.tmp 82) 2, type := 4, pos := "law.go:78", after := #[{ on := 36, ground := Ground.data }, { on := 40, ground := Ground.data }, { on := 1, ground := Ground.guard }], guard := some (1, true) }) (v := ?_) rfl (by kernel_rfl) (by kernel_rfl) (by kernel_rfl) (fun _ _ _ h => h) (Or.inl ⟨by rfl, ?hyR41⟩) (by assumption) ?_
          case hyR41 => (intro w hSw; (try dsimp only at hSw); go_simp; try with_reducible rfl)
          (try simp only [Act.put, List.setIfInBounds_toArray, List.set_cons_zero, List.set_cons_succ])
          refine wpAnyH_take (i := 43) (oi := { dst := some 85, op := Op.move (Operand.tmp 1), type := 5, pos := "law.go:78", after := #[{ on := 1, ground := Ground.guard }], guard := some (1, true) }) (v := ?_) rfl (by kernel_rfl) (by kernel_rfl) (by kernel_rfl) (fun _ _ _ h => h) (Or.inl ⟨by rfl, ?hyR43⟩) (by assumption) ?_
          case hyR43 => (intro w hSw; (try dsimp only at hSw); go_simp; try with_reducible rfl)
          (try simp only [Act.put, List.setIfInBounds_toArray, List.set_cons_zero, List.set_cons_succ])
          refine wpAnyH_take (i := 44) (oi := { dst := some 86, op := Op.binOp BinOp.and 5 (Operand.tmp 85) (Operand.const (Value.int IntKind.u8 3)) 5, type := 5, pos := "law.go:78", after := #[{ on := 43, ground := Ground.data }, { on := 1, ground := Ground.guard }], guard := some (1, true) }) (v := ?_) rfl (by kernel_rfl) (by kernel_rfl) (by kernel_rfl) (fun _ _ _ h => h) (Or.inl ⟨by rfl, ?hyR44⟩) (by assumption) ?_
          case hyR44 => (intro w hSw; (try dsimp only at hSw); go_simp; try with_reducible rfl)
          (try simp only [Act.put, List.setIfInBounds_toArray, List.set_cons_zero, List.set_cons_succ])
          refine wpAnyH_ready (rs := [42]) (by kernel_rfl) (by simp) ?_
          refine AllReadyH.cons (o := { dst := some 84, op := Op.buildSlice 42 4 #[(0, Operand.tmp 53), (1, Operand.tmp 63), (2, Operand.tmp 73), (3, Operand.tmp 83)], type := 42, pos := "law.go:78", after := #[{ on := 11, ground := Ground.data }, { on := 21, ground := Ground.data }, { on := 31, ground := Ground.data }, { on := 41, ground := Ground.data }, { on := 1, ground := Ground.guard }], guard := some (1, true) }) rfl (fun K hK => ?_) AllReadyH.nil
          go_simp
          refine hK.out _ _ ?_ (fun hHeldRm => ?_)
          · obtain ⟨q0, q1, q2, q3⟩ := hHeldR; exact ⟨alloc_cell q0, alloc_cell q1, below_alloc q2 q3, le_alloc q3⟩
          clear hK K hHeldR
          (try simp only [Act.put, List.setIfInBounds_toArray, List.set_cons_zero, List.set_cons_succ])
          refine wpAnyH_take (i := 45) (oi := { dst := some 87, op := Op.indexAddr 42 (Operand.tmp 84) (Operand.tmp 86), type := 0, pos := "law.go:78", after := #[{ on := 42, ground := Ground.data }, { on := 44, ground := Ground.data }, { on := 1, ground := Ground.guard }], guard := some (1, true) }) (v := ?_) rfl (by kernel_rfl) (by kernel_rfl) (by kernel_rfl) (fun _ _ _ h => h) (Or.inl ⟨by rfl, ?hyR45⟩) (by assumption) ?_
          case hyR45 => (intro w hSw; (try dsimp only at hSw); go_simp; try with_reducible rfl)
          (try simp only [Act.put, List.setIfInBounds_toArray, List.set_cons_zero, List.set_cons_succ])
          refine wpAnyH_ready (rs := [46]) (by kernel_rfl) (by simp) ?_
          refine AllReadyH.cons (o := { dst := some 88, op := Op.load 4 (Operand.tmp 87), type := 4, pos := "law.go:78", after := #[{ on := 45, ground := Ground.data }, { on := 1, ground := Ground.guard }], guard := some (1, true) }) rfl (fun K hK => ?_) AllReadyH.nil
          go_simp
          refine hK.out _ _ ?_ (fun hHeldRmm => ?_)
          · exact hHeldRm
          clear hK K hHeldRm
          (try simp only [Act.put, List.setIfInBounds_toArray, List.set_cons_zero, List.set_cons_succ])
          refine wpAnyH_take (i := 47) (oi := { dst := some 89, op := Op.pick (Operand.tmp 43) (Operand.tmp 88) (Operand.const (Value.bool false)), type := 4, pos := "law.go:78", after := #[{ on := 1, ground := Ground.data }, { on := 46, ground := Ground.data }], guard := none }) (v := ?_) rfl (by kernel_rfl) (by kernel_rfl) (by kernel_rfl) (fun _ _ _ h => h) (Or.inl ⟨by rfl, ?hyR47⟩) (by assumption) ?_
          case hyR47 => (intro w hSw; (try dsimp only at hSw); go_simp; try with_reducible rfl)
          (try simp only [Act.put, List.setIfInBounds_toArray, List.set_cons_zero, List.set_cons_succ])
          refine wpAnyH_take (i := 48) (oi := { dst := some 7, op := Op.assign (Operand.tmp 89), type := 4, pos := "law.go:78", after := #[{ on := 47, ground := Ground.data }, { on := 1, ground := Ground.chain }, { on := 0, ground := Ground.phase }, { on := 1, ground := Ground.phase }, { on := 2, ground := Ground.phase }, { on := 3, ground := Ground.phase }, { on := 4, ground := Ground.phase }, { on := 5, ground := Ground.phase }, { on := 6, ground := Ground.phase }, { on := 7, ground := Ground.phase }, { on := 8, ground := Ground.phase }, { on := 9, ground := Ground.phase }, { on := 10, ground := Ground.phase }, { on := 11, ground := Ground.phase }, { on := 12, ground := Ground.phase }, { on := 13, ground := Ground.phase }, { on := 14, ground := Ground.phase }, { on := 15, ground := Ground.phase }, { on := 16, ground := Ground.phase }, { on := 17, ground := Ground.phase }, { on := 18, ground := Ground.phase }, { on := 19, ground := Ground.phase }, { on := 20, ground := Ground.phase }, { on := 21, ground := Ground.phase }, { on := 22, ground := Ground.phase }, { on := 23, ground := Ground.phase }, { on := 24, ground := Ground.phase }, { on := 25, ground := Ground.phase }, { on := 26, ground := Ground.phase }, { on := 27, ground := Ground.phase }, { on := 28, ground := Ground.phase }, { on := 29, ground := Ground.phase }, { on := 30, ground := Ground.phase }, { on := 31, ground := Ground.phase }, { on := 32, ground := Ground.phase }, { on := 33, ground := Ground.phase }, { on := 34, ground := Ground.phase }, { on := 35, ground := Ground.phase }, { on := 36, ground := Ground.phase }, { on := 37, ground := Ground.phase }, { on := 38, ground := Ground.phase }, { on := 39, ground := Ground.phase }, { on := 40, ground := Ground.phase }, { on := 41, ground := Ground.phase }, { on := 42, ground := Ground.phase }, { on := 43, ground := Ground.phase }, { on := 44, ground := Ground.phase }, { on := 45, ground := Ground.phase }, { on := 46, ground := Ground.phase }, { on := 47, ground := Ground.phase }], guard := none }) (v := ?_) rfl (by kernel_rfl) (by kernel_rfl) (by kernel_rfl) (fun _ _ _ h => h) (Or.inl ⟨by rfl, ?hyR48⟩) (by assumption) ?_
          case hyR48 => (intro w hSw; (try dsimp only at hSw); go_simp; try with_reducible rfl)
          (try simp only [Act.put, List.setIfInBounds_toArray, List.set_cons_zero, List.set_cons_succ])
          refine wpAnyH_done (by kernel_rfl) ?_ _
          obtain ⟨_, _, hbl, _⟩ := hHeldRmm
          go_wp2
          go_roundw
          case rel => exact ⟨m + 2, _, by omega, by go_num, rfl, bown_next HO4.out hbl, next_trans' HB4.out hbl, HQ2⟩
          case measure => simp [intOf]; omega
    · have hki : ¬ (n : Int) < (N : Int) := by omega
      have hnN : n = N := by omega
      subst hnN
      have HO2 := HO.out
      have HQ2 := HQ.out
      rw [List.take_of_length_le (by rw [HN.out]; exact Nat.le_refl _)] at HO2 HQ2
      obtain ⟨g, cap2, rfl, _, HI, _, _⟩ := own_block (by rw [valsOf_len]; exact HN.out) (by omega) HO2
      have HI2 : Hid (IsVals wr (some ⟨g, 0, none⟩) (valsOf l)) := HI
      have HAq : Hid (applyR (code ⟨#[60]⟩) (valsOf l) = (⟨2, 0, boolS q⟩, 0)) := by rw [Hid, HAp.out, HQ2]
      have HTr : Hid (TabW wr) := tab_next HT.out HWr.out
      have HLn : Hid ((valsOf l).length = n) := by rw [Hid, valsOf_len]; exact HN.out
      have HRr : Hid (∀ u ∈ valsOf l, rightV u) := rights_of HL.out
      clear HO HO2 HQ HQ2 HI HAp
      go_wp2_with fail
      refine (apply_any ⟨#[60]⟩ 2 0 0 (boolS q) _ cap2 n _ _ HLn.out (by omega) HI2.out HRr.out HTr.out HAq.out).mono ?_
      rintro e w5 ⟨rfl, hb5⟩
      obtain ⟨x1, Hx1⟩ : ∃ x1, w5.heap.size = x1 := ⟨_, rfl⟩
      obtain ⟨W, HWe⟩ : ∃ W, W = w5.alloc (.cells #[.int .i64 2, .int .i64 0, .string (boolS q)] 26) := ⟨_, rfl⟩
      have g0 : W.drew.cell? ⟨x1, 0, none⟩ = some (.int .i64 2) := by rw [HWe]; exact box_cell Hx1.symm rfl
      have g1 : W.drew.cell? ⟨x1, 1, none⟩ = some (.int .i64 0) := by rw [HWe]; exact box_cell Hx1.symm rfl
      have g2 : W.drew.cell? ⟨x1, 2, none⟩ = some (.string (boolS q)) := by rw [HWe]; exact box_cell Hx1.symm rfl
      have s0 : Below w.heap.size w W.drew := by rw [HWe]; exact (next_trans' (next_trans' HWr.out hb5) (alloc_below' _ _)).drew
      have s1 : w.heap.size ≤ W.drew.heap.size := s0.size
      clear hb5 HI2 HTr HWr HV HL HT HRr HLn HAq
      go_wp2_with fail
      rw [← HWe]
      clear HWe
      refine wp_region_held_drew (S := (fun w' => w'.cell? ⟨x1, 0, none⟩ = some (.int .i64 2) ∧ w'.cell? ⟨x1, 1, none⟩ = some (.int .i64 0) ∧ w'.cell? ⟨x1, 2, none⟩ = some (.string (boolS q)) ∧ Below w.heap.size w w' ∧ w.heap.size ≤ w'.heap.size)) (by kernel_rfl) ?_ (fun hHeldA => ?_)
      · exact ⟨g0, g1, g2, s0, s1⟩
      refine wpAnyH_take (i := 0) (oi := { dst := some 96, op := Op.move (Operand.tmp 10), type := 27, pos := "law.go:82", after := #[], guard := none }) (v := ?_) rfl (by kernel_rfl) (by kernel_rfl) (by kernel_rfl) (fun _ _ _ h => h) (Or.inl ⟨by rfl, ?hyA0⟩) (by assumption) ?_
      case hyA0 => (intro w hSw; (try dsimp only at hSw); go_simp; try with_reducible rfl)
      (try simp only [Act.put, List.setIfInBounds_toArray, List.set_cons_zero, List.set_cons_succ])
      refine wpAnyH_take (i := 1) (oi := { dst := some 97, op := Op.binOp BinOp.eql 3 (Operand.tmp 96) (Operand.const (Value.int IntKind.i64 0)) 3, type := 4, pos := "law.go:82", after := #[{ on := 0, ground := Ground.data }], guard := none }) (v := ?_) rfl (by kernel_rfl) (by kernel_rfl) (by kernel_rfl) (fun _ _ _ h => h) (Or.inl ⟨by rfl, ?hyA1⟩) (by assumption) ?_
      case hyA1 => (intro w hSw; (try dsimp only at hSw); go_simp; try with_reducible rfl)
      (try simp only [Act.put, List.setIfInBounds_toArray, List.set_cons_zero, List.set_cons_succ])
      refine wpAnyH_take (i := 2) (oi := { dst := some 98, op := Op.move (Operand.tmp 97), type := 4, pos := "law.go:82", after := #[{ on := 1, ground := Ground.data }], guard := none }) (v := ?_) rfl (by kernel_rfl) (by kernel_rfl) (by kernel_rfl) (fun _ _ _ h => h) (Or.inl ⟨by rfl, ?hyA2⟩) (by assumption) ?_
      case hyA2 => (intro w hSw; (try dsimp only at hSw); go_simp; try with_reducible rfl)
      (try simp only [Act.put, List.setIfInBounds_toArray, List.set_cons_zero, List.set_cons_succ])
      refine wpAnyH_take (i := 3) (oi := { dst := some 99, op := Op.load 26 (Operand.tmp 9), type := 26, pos := "law.go:82", after := #[{ on := 2, ground := Ground.guard }], guard := some (2, true) }) (v := ?_) rfl (by kernel_rfl) (by kernel_rfl) (by kernel_rfl) (fun _ _ _ h => h) (Or.inl ⟨by rfl, ?hyA3⟩) (by assumption) ?_
      case hyA3 => (intro w hSw; (try dsimp only at hSw); go_simp; try with_reducible rfl)
      (try simp only [Act.put, List.setIfInBounds_toArray, List.set_cons_zero, List.set_cons_succ])
      refine wpAnyH_take (i := 4) (oi := { dst := some 100, op := Op.move (Operand.tmp 7), type := 4, pos := "law.go:82", after := #[{ on := 2, ground := Ground.guard }], guard := some (2, true) }) (v := ?_) rfl (by kernel_rfl) (by kernel_rfl) (by kernel_rfl) (fun _ _ _ h => h) (Or.inl ⟨by rfl, ?hyA4⟩) (by assumption) ?_
      case hyA4 => (intro w hSw; (try dsimp only at hSw); go_simp; try with_reducible rfl)
      (try simp only [Act.put, List.setIfInBounds_toArray, List.set_cons_zero, List.set_cons_succ])
      refine wpAnyH_ready (rs := [5]) (by kernel_rfl) (by simp) ?_
      refine AllReadyH.cons (o := { dst := some 101, op := Op.call { callee := Callee.value (Operand.func 21), args := #[Operand.tmp 100], argTypes := #[4] }, type := 26, pos := "law.go:82", after := #[{ on := 4, ground := Ground.data }, { on := 2, ground := Ground.chain }, { on := 2, ground := Ground.guard }], guard := some (2, true) }) rfl (fun K hK => ?_) AllReadyH.nil
      go_simp
      with_reducible refine (rbool_any _ _).mono ?_
      rintro e w' ⟨rfl, hb⟩
      refine hK.out _ _ ?_ (fun hHeldAx => ?_)
      · obtain ⟨q0, q1, q2, q3, q4⟩ := hHeldA
        exact ⟨keep_cell hb q0, keep_cell hb q1, keep_cell hb q2, below_next q3 hb q4, le_next q4 hb⟩
      clear hK K hb hHeldA
      (try simp only [Act.put, List.setIfInBounds_toArray, List.set_cons_zero, List.set_cons_succ])
      refine wpAnyH_ready (rs := [6]) (by kernel_rfl) (by simp) ?_
      refine AllReadyH.cons (o := { dst := some 102, op := Op.call { callee := Callee.value (Operand.func 15), args := #[Operand.tmp 99, Operand.tmp 101], argTypes := #[26, 26] }, type := 4, pos := "law.go:82", after := #[{ on := 3, ground := Ground.data }, { on := 5, ground := Ground.data }, { on := 5, ground := Ground.chain }, { on := 2, ground := Ground.guard }], guard := some (2, true) }) rfl (fun K hK => ?_) AllReadyH.nil
      go_simp
      with_reducible refine (HRf.out _ _ _ _).mono ?_
      rintro e w' ⟨rfl, hb⟩
      refine hK.out _ _ ?_ (fun hHeldAxx => ?_)
      · obtain ⟨q0, q1, q2, q3, q4⟩ := hHeldAx
        exact ⟨keep_cell hb q0, keep_cell hb q1, keep_cell hb q2, below_next q3 hb q4, le_next q4 hb⟩
      clear hK K hb hHeldAx
      (try simp only [Act.put, List.setIfInBounds_toArray, List.set_cons_zero, List.set_cons_succ])
      refine wpAnyH_take (i := 7) (oi := { dst := some 103, op := Op.pick (Operand.tmp 98) (Operand.tmp 102) (Operand.const (Value.bool false)), type := 4, pos := "law.go:82", after := #[{ on := 2, ground := Ground.data }, { on := 6, ground := Ground.data }], guard := none }) (v := ?_) rfl (by kernel_rfl) (by kernel_rfl) (by kernel_rfl) (fun _ _ _ h => h) (Or.inl ⟨by rfl, ?hyA7⟩) (by assumption) ?_
      case hyA7 => (intro w hSw; (try dsimp only at hSw); go_simp; try with_reducible rfl)
      (try simp only [Act.put, List.setIfInBounds_toArray, List.set_cons_zero, List.set_cons_succ])
      refine wpAnyH_take (i := 8) (oi := { dst := some 4, op := Op.assign (Operand.tmp 103), type := 4, pos := "law.go:82", after := #[{ on := 7, ground := Ground.data }, { on := 6, ground := Ground.chain }, { on := 0, ground := Ground.phase }, { on := 1, ground := Ground.phase }, { on := 2, ground := Ground.phase }, { on := 3, ground := Ground.phase }, { on := 4, ground := Ground.phase }, { on := 5, ground := Ground.phase }, { on := 6, ground := Ground.phase }, { on := 7, ground := Ground.phase }], guard := none }) (v := ?_) rfl (by kernel_rfl) (by kernel_rfl) (by kernel_rfl) (fun _ _ _ h => h) (Or.inl ⟨by rfl, ?hyA8⟩) (by assumption) ?_
      case hyA8 => (intro w hSw; (try dsimp only at hSw); go_simp; try with_reducible rfl)
      (try simp only [Act.put, List.setIfInBounds_toArray, List.set_cons_zero, List.set_cons_succ])
      refine wpAnyH_done (by kernel_rfl) ?_ _
      obtain ⟨_, _, _, hbl, _⟩ := hHeldAxx
      go_wp2
      go_ret
      exact ⟨rfl, hbl⟩

set_option maxHeartbeats 8000000 in
set_option maxRecDepth 100000 in
theorem chains_1 (ao : Option Addr) (N cap : Nat) (l : List Int) (a : Int) (w : World) (hwh : bits BinOp.and IntKind.u8 a 3 = 1) (h1 : 2 ≤ N) (h2 : N ≤ 30) (hN : l.length = N) (hv : IntsW w ao l) (hl : ∀ z ∈ l, inB z = true) (ht : TabW w) :
    Calls Tryd.prog 5 #[.slice ao N cap, .int .u8 a] w fun e w' => e = .returned (.bool true) ∧ Below w.heap.size w w' := by
  obtain ⟨i0, hi, hz0, hz1, hz2⟩ := infoVal'
  have HT : Hid (TabW w) := ht
  have HV : Hid (IntsW w ao l) := hv
  have HL : Hid (∀ z ∈ l, inB z = true) := hl
  have HN : Hid (l.length = N) := hN
  have h1' : ¬ (N : Int) < 2 := by omega
  have h2' : ¬ (30 : Int) < (N : Int) := by omega
  have HRf : Hid (∀ (k i : Int) (s : ByteArray) (w : World), Calls Tryd.prog 15 #[.agg #[.int .i64 (k), .int .i64 (i), .string (s)], .agg #[.int .i64 (k), .int .i64 (i), .string (s)]] w fun e w' => e = .returned (.bool true) ∧ Below w.heap.size w w') := by
    intro k i s w; rw [← sameB_refl k i s]; exact rsame_any k i k i s s w
  have HAp : Hid (applyR (code ⟨#[60, 61]⟩) (valsOf l) = (⟨2, 0, boolS (chainB 4 l)⟩, 0)) := ch_apply (c := 4) (by decide) (by decide) (fun L => rfl) (by decide) (by decide) (by decide) (by rw [HN.out]; exact h1)
  clear ht hv hl hN
  go_enter Tryd.func5, Tryd.ntmps5
  go_wp2_with fail
  refine (known6 _ HT.out).mono ?_
  rintro e w1 ⟨rfl, hb1⟩
  have b1 : Hid (Below w.heap.size w (w1.alloc (.cells #[.string ⟨#[60]⟩, .string ⟨#[60, 61]⟩, .string ⟨#[62]⟩, .string ⟨#[62, 61]⟩] 9))) := next_trans' hb1 (alloc_below' _ _)
  clear hb1
  go_wp2
  go_loopw [6, 7, 8] (fun x p y wr => ∃ (n : Nat) (q : Bool), n ≤ N ∧ y = .int .i64 n ∧ p = .bool q ∧ Hid (wr.ownsRow w.heap.size 26 3 x n (valsC (valsOf (l.take n)))) ∧ Hid (Below w.heap.size w wr) ∧ Hid (chainB 4 (l.take n) = q)) (fun _ _ y _ => N - (intOf y).toNat)
  case atStart => exact ⟨0, true, Nat.zero_le _, rfl, rfl, World.ownsRow_nil _ _ _ _, b1, rfl⟩
  case round =>
    obtain ⟨n, q, hn, rfl, rfl, HO, HWr, HQ⟩ := hrel
    clear b1
    by_cases hlt : n < N
    · have hki : (n : Int) < (N : Int) := by omega
      obtain ⟨z, HG⟩ : ∃ z, Hid (l[n]? = some z) := ⟨_, List.getElem?_eq_getElem (by rw [HN.out]; exact hlt)⟩
      obtain ⟨b, o, rfl, cz⟩ := (HV.out.next HWr.out) n z HG.out
      go_wp2_with fail
      refine (rint_any z _).mono ?_
      rintro e w3 ⟨rfl, hb3⟩
      have HB3 : Hid (Below w.heap.size w w3) := next_trans' HWr.out hb3
      have HO3 : Hid (w3.ownsRow w.heap.size 26 3 u6 n (valsC (valsOf (l.take n)))) := bown_next HO.out hb3
      clear hb3 HO cz
      go_wp2_with (at_builtin; refine wpList_append_own _ rfl _ _ 22 rfl w.heap.size 26 i0 (.agg #[.int .i64 (0), .int .i64 (0), .string (⟨#[]⟩)]) 3 32 Tryd.underlying22 hi hz0 hz1 hz2 rfl (by decide) _ _ _ rfl (HO3.out.alloc _) ⟨w3.heap.size, 0, none⟩ 1 1 [.int .i64 1, .int .i64 z, .string ⟨#[]⟩] rfl rfl ?c1 ?c2 ?c3 ?c4 ?c5 ?_)
      case c1 =>
        intro j u hj
        match j, hj with
        | 0, hj => simp at hj; subst hj; simp [Addr.add]
        | 1, hj => simp at hj; subst hj; simp [Addr.add]
        | 2, hj => simp at hj; subst hj; simp [Addr.add]
      case c2 => intro u hu; simp at hu; rcases hu with rfl | rfl | rfl <;> rfl
      case c3 => unfold maxLen; omega
      case c4 => omega
      case c5 => have := HB3.out.size; simp; omega
      intro v' w4 ho hg _
      have HO4 : Hid (w4.ownsRow w.heap.size 26 3 v' (n + 1) (valsC (valsOf (l.take (n + 1))))) := by
        rw [Hid, valsOf_take HG.out, ← valsC_app]; exact ho
      have HB4 : Hid (Below w.heap.size w w4) := by
        have hs := HB3.out.size
        refine HB3.out.trans (((Below.refl _ w3).alloc hs _).grown hg (by simp; omega) (fun q hq => ?_))
        exact (HO3.out.lt q hq).1
      clear ho hg HO3 HB3
      by_cases hz : n = 0
      · have hz' : ¬ (0 : Int) < (n : Int) := by omega
        have HQ2 : Hid (chainB 4 (l.take (n + 1)) = q) := by
          subst hz
          rw [Hid, chain_one]
          exact HQ.out
        clear hz
        go_wp2
        go_roundw
        case rel => exact ⟨n + 1, q, by omega, by go_num, rfl, HO4, HB4, HQ2⟩
        case measure => simp [intOf]; omega
      · obtain ⟨m, rfl⟩ : ∃ m, n = m + 1 := ⟨n - 1, by omega⟩
        obtain ⟨y, HGy⟩ : ∃ y, Hid (l[m]? = some y) := ⟨_, List.getElem?_eq_getElem (by rw [HN.out]; omega)⟩
        obtain ⟨b', o', eo, cy⟩ := (HV.out.next HB4.out) m y HGy.out
        obtain ⟨rfl, rfl⟩ : b' = b ∧ o' = o := by injection eo with e; injection e with e1 e2; exact ⟨e1.symm, e2.symm⟩
        obtain ⟨b2, o2, eo2, cz⟩ := (HV.out.next HB4.out) (m + 1) z HG.out
        obtain ⟨rfl, rfl⟩ : b2 = b' ∧ o2 = o' := by injection eo2 with e; injection e with e1 e2; exact ⟨e1.symm, e2.symm⟩
        have hz' : (0 : Int) < ((m + 1 : Nat) : Int) := by omega
        have hm0 : (0 : Int) ≤ (m : Int) := by omega
        have hm1 : (m : Int) < (N : Int) := by omega
        have hm2 : (m : Int) + 1 < (N : Int) := by omega
        have hm3 : (0 : Int) ≤ (m : Int) + 1 := by omega
        have hwm : IntKind.i64.wrap (m : Int) = (m : Int) := by rw [IntKind.wrap_i64]; omega
        have HQ2 : Hid (chainB 4 (l.take (m + 2)) = (q && standB 4 y z)) := by rw [Hid, chain_take _ _ m y z HGy.out HG.out, HQ.out]
        clear eo eo2
        cases q
        · go_wp2
          go_quiet (fail)
          go_wp2
          go_roundw
          case rel => exact ⟨m + 2, false, by omega, by go_num, rfl, HO4, HB4.out.trans ((show SameW w4 (w4.drewN _) from ⟨_, rfl⟩).below _), HQ2⟩
          case measure => simp [intOf]; omega
        · go_wp2
          refine wp_region_held_drew (S := (fun w' => w'.cell? ⟨b2, o2 + m, none⟩ = some (.int .i64 y) ∧ w'.cell? ⟨b2, o2 + (m + 1), none⟩ = some (.int .i64 z) ∧ Below w4.heap.size w4 w' ∧ w4.heap.size ≤ w'.heap.size)) (by kernel_rfl) ?_ (fun hHeldR => ?_)
          · exact ⟨cy, cz, (Below.refl _ _).drew, Nat.le_refl _⟩
          refine wpAnyH_take (i := 0) (oi := { dst := some 42, op := Op.move (Operand.tmp 7), type := 4, pos := "law.go:78", after := #[], guard := none }) (v := ?_) rfl (by kernel_rfl) (by kernel_rfl) (by kernel_rfl) (fun _ _ _ h => h) (Or.inl ⟨by rfl, ?hyR0⟩) (by assumption) ?_
          case hyR0 => (intro w hSw; (try dsimp only at hSw); go_simp; try with_reducible rfl)
          (try simp only [Act.put, List.setIfInBounds_toArray, List.set_cons_zero, List.set_cons_succ])
          refine wpAnyH_take (i := 1) (oi := { dst := some 43, op := Op.move (Operand.tmp 42), type := 4, pos := "law.go:78", after := #[{ on := 0, ground := Ground.data }], guard := none }) (v := ?_) rfl (by kernel_rfl) (by kernel_rfl) (by kernel_rfl) (fun _ _ _ h => h) (Or.inl ⟨by rfl, ?hyR1⟩) (by assumption) ?_
          case hyR1 => (intro w hSw; (try dsimp only at hSw); go_simp; try with_reducible rfl)
          (try simp only [Act.put, List.setIfInBounds_toArray, List.set_cons_zero, List.set_cons_succ])
          refine wpAnyH_take (i := 2) (oi := { dst := some 44, op := Op.move (Operand.tmp 0), type := 40, pos := "law.go:78", after := #[{ on := 1, ground := Ground.guard }], guard := some (1, true) }) (v := ?_) rfl (by kernel_rfl) (by kernel_rfl) (by kernel_rfl) (fun _ _ _ h => h) (Or.inl ⟨by rfl, ?hyR2⟩) (by assumption) ?_
          case hyR2 => (intro w hSw; (try dsimp only at hSw); go_simp; try with_reducible rfl)
          (try simp only [Act.put, List.setIfInBounds_toArray, List.set_cons_zero, List.set_cons_succ])
          refine wpAnyH_take (i := 3) (oi := { dst := some 45, op := Op.move (Operand.tmp 8), type := 3, pos := "law.go:78", after := #[{ on := 1, ground := Ground.guard }], guard := some (1, true) }) (v := ?_) rfl (by kernel_rfl) (by kernel_rfl) (by kernel_rfl) (fun _ _ _ h => h) (Or.inl ⟨by rfl, ?hyR3⟩) (by assumption) ?_
          case hyR3 => (intro w hSw; (try dsimp only at hSw); go_simp; try with_reducible rfl)
          (try simp only [Act.put, List.setIfInBounds_toArray, List.set_cons_zero, List.set_cons_succ])
          refine wpAnyH_take (i := 4) (oi := { dst := some 46, op := Op.binOp BinOp.sub 3 (Operand.tmp 45) (Operand.const (Value.int IntKind.i64 1)) 3, type := 3, pos := "law.go:78", after := #[{ on := 3, ground := Ground.data }, { on := 1, ground := Ground.guard }], guard := some (1, true) }) (v := ?_) rfl (by kernel_rfl) (by kernel_rfl) (by kernel_rfl) (fun _ _ _ h => h) (Or.inl ⟨by rfl, ?hyR4⟩) (by assumption) ?_
          case hyR4 => (intro w hSw; (try dsimp only at hSw); go_simp; try with_reducible rfl)
          (try simp only [Act.put, List.setIfInBounds_toArray, List.set_cons_zero, List.set_cons_succ])
          refine wpAnyH_take (i := 5) (oi := { dst := some 47, op := Op.indexAddr 40 (Operand.tmp 44) (Operand.tmp 46), type := 0, pos := "law.go:78", after := #[{ on := 2, ground := Ground.data }, { on := 4, ground := Ground.data }, { on := 1, ground := Ground.guard }], guard := some (1, true) }) (v := ?_) rfl (by kernel_rfl) (by kernel_rfl) (by kernel_rfl) (fun _ _ _ h => h) (Or.inl ⟨by rfl, ?hyR5⟩) (by assumption) ?_
          case hyR5 => (intro w hSw; (try dsimp only at hSw); go_simp; try with_reducible rfl)
          (try simp only [Act.put, List.setIfInBounds_toArray, List.set_cons_zero, List.set_cons_succ])
          refine wpAnyH_take (i := 6) (oi := { dst := some 48, op := Op.load 2 (Operand.tmp 47), type := 2, pos := "law.go:78", after := #[{ on := 5, ground := Ground.data }, { on := 1, ground := Ground.guard }], guard := some (1, true) }) (v := ?_) rfl (by kernel_rfl) (by kernel_rfl) (by kernel_rfl) (fun _ _ _ h => h) (Or.inl ⟨by rfl, ?hyR6⟩) (by assumption) ?_
          case hyR6 => (intro w hSw; (try dsimp only at hSw); go_simp; try with_reducible rfl)
          (try simp only [Act.put, List.setIfInBounds_toArray, List.set_cons_zero, List.set_cons_succ])
          refine wpAnyH_take (i := 7) (oi := { dst := some 49, op := Op.move (Operand.tmp 0), type := 40, pos := "law.go:78", after := #[{ on := 1, ground := Ground.guard }], guard := some (1, true) }) (v := ?_) rfl (by kernel_rfl) (by kernel_rfl) (by kernel_rfl) (fun _ _ _ h => h) (Or.inl ⟨by rfl, ?hyR7⟩) (by assumption) ?_
          case hyR7 => (intro w hSw; (try dsimp only at hSw); go_simp; try with_reducible rfl)
          (try simp only [Act.put, List.setIfInBounds_toArray, List.set_cons_zero, List.set_cons_succ])
          refine wpAnyH_take (i := 8) (oi := { dst := some 50, op := Op.move (Operand.tmp 8), type := 3, pos := "law.go:78", after := #[{ on := 1, ground := Ground.guard }], guard := some (1, true) }) (v := ?_) rfl (by kernel_rfl) (by kernel_rfl) (by kernel_rfl) (fun _ _ _ h => h) (Or.inl ⟨by rfl, ?hyR8⟩) (by assumption) ?_
          case hyR8 => (intro w hSw; (try dsimp only at hSw); go_simp; try with_reducible rfl)
          (try simp only [Act.put, List.setIfInBounds_toArray, List.set_cons_zero, List.set_cons_succ])
          refine wpAnyH_take (i := 9) (oi := { dst := some 51, op := Op.indexAddr 40 (Operand.tmp 49) (Operand.tmp 50), type := 0, pos := "law.go:78", after := #[{ on := 7, ground := Ground.data }, { on := 8, ground := Ground.data }, { on := 1, ground := Ground.guard }], guard := some (1, true) }) (v := ?_) rfl (by kernel_rfl) (by kernel_rfl) (by kernel_rfl) (fun _ _ _ h => h) (Or.inl ⟨by rfl, ?hyR9⟩) (by assumption) ?_
          case hyR9 => (intro w hSw; (try dsimp only at hSw); go_simp; try with_reducible rfl)
          (try simp only [Act.put, List.setIfInBounds_toArray, List.set_cons_zero, List.set_cons_succ])
          refine wpAnyH_take (i := 10) (oi := { dst := some 52, op := Op.load 2 (Operand.tmp 51), type := 2, pos := "law.go:78", after := #[{ on := 9, ground := Ground.data }, { on := 1, ground := Ground.guard }], guard := some (1, true) }) (v := ?_) rfl (by kernel_rfl) (by kernel_rfl) (by kernel_rfl) (fun _ _ _ h => h) (Or.inl ⟨by rfl, ?hyR10⟩) (by assumption) ?_
          case hyR10 => (intro w hSw; (try dsimp only at hSw); go_simp; try with_reducible rfl)
          (try simp only [Act.put, List.setIfInBounds_toArray, List.set_cons_zero, List.set_cons_succ])
          refine wpAnyH_take (i := 11) (oi := { dst := some 53, op := Op.binOp BinOp.lss 2 (Operand.tmp 48) (Operand.tmp 52) 2, type := 4, pos := "law.go:78", after := #[{ on := 6, ground := Ground.data }, { on := 10, ground := Ground.data }, { on := 1, ground := Ground.guard }], guard := some (1, true) }) (v := ?_) rfl (by kernel_rfl) (by kernel_rfl) (by kernel_rfl) (fun _ _ _ h => h) (Or.inl ⟨by rfl, ?hyR11⟩) (by assumption) ?_
          case hyR11 => (intro w hSw; (try dsimp only at hSw); go_simp; try with_reducible rfl)
          (try simp only [Act.put, List.setIfInBounds_toArray, List.set_cons_zero, List.set_cons_succ])
          refine wpAnyH_take (i := 12) (oi := { dst := some 54, op := Op.move (Operand.tmp 0), type := 40, pos := "law.go:78", after := #[{ on := 1, ground := Ground.guard }], guard := some (1, true) }) (v := ?_) rfl (by kernel_rfl) (by kernel_rfl) (by kernel_rfl) (fun _ _ _ h => h) (Or.inl ⟨by rfl, ?hyR12⟩) (by assumption) ?_
          case hyR12 => (intro w hSw; (try dsimp only at hSw); go_simp; try with_reducible rfl)
          (try simp only [Act.put, List.setIfInBounds_toArray, List.set_cons_zero, List.set_cons_succ])
          refine wpAnyH_take (i := 13) (oi := { dst := some 55, op := Op.move (Operand.tmp 8), type := 3, pos := "law.go:78", after := #[{ on := 1, ground := Ground.guard }], guard := some (1, true) }) (v := ?_) rfl (by kernel_rfl) (by kernel_rfl) (by kernel_rfl) (fun _ _ _ h => h) (Or.inl ⟨by rfl, ?hyR13⟩) (by assumption) ?_
          case hyR13 => (intro w hSw; (try dsimp only at hSw); go_simp; try with_reducible rfl)
          (try simp only [Act.put, List.setIfInBounds_toArray, List.set_cons_zero, List.set_cons_succ])
          refine wpAnyH_take (i := 14) (oi := { dst := some 56, op := Op.binOp BinOp.sub 3 (Operand.tmp 55) (Operand.const (Value.int IntKind.i64 1)) 3, type := 3, pos := "law.go:78", after := #[{ on := 13, ground := Ground.data }, { on := 1, ground := Ground.guard }], guard := some (1, true) }) (v := ?_) rfl (by kernel_rfl) (by kernel_rfl) (by kernel_rfl) (fun _ _ _ h => h) (Or.inl ⟨by rfl, ?hyR14⟩) (by assumption) ?_
          case hyR14 => (intro w hSw; (try dsimp only at hSw); go_simp; try with_reducible rfl)
          (try simp only [Act.put, List.setIfInBounds_toArray, List.set_cons_zero, List.set_cons_succ])
          refine wpAnyH_take (i := 15) (oi := { dst := some 57, op := Op.indexAddr 40 (Operand.tmp 54) (Operand.tmp 56), type := 0, pos := "law.go:78", after := #[{ on := 12, ground := Ground.data }, { on := 14, ground := Ground.data }, { on := 1, ground := Ground.guard }], guard := some (1, true) }) (v := ?_) rfl (by kernel_rfl) (by kernel_rfl) (by kernel_rfl) (fun _ _ _ h => h) (Or.inl ⟨by rfl, ?hyR15⟩) (by assumption) ?_
          case hyR15 => (intro w hSw; (try dsimp only at hSw); go_simp; try with_reducible rfl)
          (try simp only [Act.put, List.setIfInBounds_toArray, List.set_cons_zero, List.set_cons_succ])
          refine wpAnyH_take (i := 16) (oi := { dst := some 58, op := Op.load 2 (Operand.tmp 57), type := 2, pos := "law.go:78", after := #[{ on := 15, ground := Ground.data }, { on := 1, ground := Ground.guard }], guard := some (1, true) }) (v := ?_) rfl (by kernel_rfl) (by kernel_rfl) (by kernel_rfl) (fun _ _ _ h => h) (Or.inl ⟨by rfl, ?hyR16⟩) (by assumption) ?_
          case hyR16 => (intro w hSw; (try dsimp only at hSw); go_simp; try with_reducible rfl)
          (try simp only [Act.put, List.setIfInBounds_toArray, List.set_cons_zero, List.set_cons_succ])
          refine wpAnyH_take (i := 17) (oi := { dst := some 59, op := Op.move (Operand.tmp 0), type := 40, pos := "law.go:78", after := #[{ on := 1, ground := Ground.guard }], guard := some (1, true) }) (v := ?_) rfl (by kernel_rfl) (by kernel_rfl) (by kernel_rfl) (fun _ _ _ h => h) (Or.inl ⟨by rfl, ?hyR17⟩) (by assumption) ?_
          case hyR17 => (intro w hSw; (try dsimp only at hSw); go_simp; try with_reducible rfl)
          (try simp only [Act.put, List.setIfInBounds_toArray, List.set_cons_zero, List.set_cons_succ])
          refine wpAnyH_take (i := 18) (oi := { dst := some 60, op := Op.move (Operand.tmp 8), type := 3, pos := "law.go:78", after := #[{ on := 1, ground := Ground.guard }], guard := some (1, true) }) (v := ?_) rfl (by kernel_rfl) (by kernel_rfl) (by kernel_rfl) (fun _ _ _ h => h) (Or.inl ⟨by rfl, ?hyR18⟩) (by assumption) ?_
          case hyR18 => (intro w hSw; (try dsimp only at hSw); go_simp; try with_reducible rfl)
          (try simp only [Act.put, List.setIfInBounds_toArray, List.set_cons_zero, List.set_cons_succ])
          refine wpAnyH_take (i := 19) (oi := { dst := some 61, op := Op.indexAddr 40 (Operand.tmp 59) (Operand.tmp 60), type := 0, pos := "law.go:78", after := #[{ on := 17, ground := Ground.data }, { on := 18, ground := Ground.data }, { on := 1, ground := Ground.guard }], guard := some (1, true) }) (v := ?_) rfl (by kernel_rfl) (by kernel_rfl) (by kernel_rfl) (fun _ _ _ h => h) (Or.inl ⟨by rfl, ?hyR19⟩) (by assumption) ?_
          case hyR19 => (intro w hSw; (try dsimp only at hSw); go_simp; try with_reducible rfl)
          (try simp only [Act.put, List.setIfInBounds_toArray, List.set_cons_zero, List.set_cons_succ])
          refine wpAnyH_take (i := 20) (oi := { dst := some 62, op := Op.load 2 (Operand.tmp 61), type := 2, pos := "law.go:78", after := #[{ on := 19, ground := Ground.data }, { on := 1, ground := Ground.guard }], guard := some (1, true) }) (v := ?_) rfl (by kernel_rfl) (by kernel_rfl) (by kernel_rfl) (fun _ _ _ h => h) (Or.inl ⟨by rfl, ?hyR20⟩) (by assumption) ?_
          case hyR20 => (intro w hSw; (try dsimp only at hSw); go_simp; try with_reducible rfl)
          (try simp only [Act.put, List.setIfInBounds_toArray, List.set_cons_zero, List.set_cons_succ])
          refine wpAnyH_take (i := 21) (oi := { dst := some 63, op := Op.binOp BinOp.leq 2 (Operand.tmp 58) (Operand.tmp 62) 2, type := 4, pos := "law.go:78", after := #[{ on := 16, ground := Ground.data }, { on := 20, ground := Ground.data }, { on := 1, ground := Ground.guard }], guard := some (1, true) }) (v := ?_) rfl (by kernel_rfl) (by kernel_rfl) (by kernel_rfl) (fun _ _ _ h => h) (Or.inl ⟨by rfl, ?hyR21⟩) (by assumption) ?_
          case hyR21 => (intro w hSw; (try dsimp only at hSw); go_simp; try with_reducible rfl)
          (try simp only [Act.put, List.setIfInBounds_toArray, List.set_cons_zero, List.set_cons_succ])
          refine wpAnyH_take (i := 22) (oi := { dst := some 64, op := Op.move (Operand.tmp 0), type := 40, pos := "law.go:78", after := #[{ on := 1, ground := Ground.guard }], guard := some (1, true) }) (v := ?_) rfl (by kernel_rfl) (by kernel_rfl) (by kernel_rfl) (fun _ _ _ h => h) (Or.inl ⟨by rfl, ?hyR22⟩) (by assumption) ?_
          case hyR22 => (intro w hSw; (try dsimp only at hSw); go_simp; try with_reducible rfl)
          (try simp only [Act.put, List.setIfInBounds_toArray, List.set_cons_zero, List.set_cons_succ])
          refine wpAnyH_take (i := 23) (oi := { dst := some 65, op := Op.move (Operand.tmp 8), type := 3, pos := "law.go:78", after := #[{ on := 1, ground := Ground.guard }], guard := some (1, true) }) (v := ?_) rfl (by kernel_rfl) (by kernel_rfl) (by kernel_rfl) (fun _ _ _ h => h) (Or.inl ⟨by rfl, ?hyR23⟩) (by assumption) ?_
          case hyR23 => (intro w hSw; (try dsimp only at hSw); go_simp; try with_reducible rfl)
          (try simp only [Act.put, List.setIfInBounds_toArray, List.set_cons_zero, List.set_cons_succ])
          refine wpAnyH_take (i := 24) (oi := { dst := some 66, op := Op.binOp BinOp.sub 3 (Operand.tmp 65) (Operand.const (Value.int IntKind.i64 1)) 3, type := 3, pos := "law.go:78", after := #[{ on := 23, ground := Ground.data }, { on := 1, ground := Ground.guard }], guard := some (1, true) }) (v := ?_) rfl (by kernel_rfl) (by kernel_rfl) (by kernel_rfl) (fun _ _ _ h => h) (Or.inl ⟨by rfl, ?hyR24⟩) (by assumption) ?_
          case hyR24 => (intro w hSw; (try dsimp only at hSw); go_simp; try with_reducible rfl)
          (try simp only [Act.put, List.setIfInBounds_toArray, List.set_cons_zero, List.set_cons_succ])
          refine wpAnyH_take (i := 25) (oi := { dst := some 67, op := Op.indexAddr 40 (Operand.tmp 64) (Operand.tmp 66), type := 0, pos := "law.go:78", after := #[{ on := 22, ground := Ground.data }, { on := 24, ground := Ground.data }, { on := 1, ground := Ground.guard }], guard := some (1, true) }) (v := ?_) rfl (by kernel_rfl) (by kernel_rfl) (by kernel_rfl) (fun _ _ _ h => h) (Or.inl ⟨by rfl, ?hyR25⟩) (by assumption) ?_
          case hyR25 => (intro w hSw; (try dsimp only at hSw); go_simp; try with_reducible rfl)
          (try simp only [Act.put, List.setIfInBounds_toArray, List.set_cons_zero, List.set_cons_succ])
          refine wpAnyH_take (i := 26) (oi := { dst := some 68, op := Op.load 2 (Operand.tmp 67), type := 2, pos := "law.go:78", after := #[{ on := 25, ground := Ground.data }, { on := 1, ground := Ground.guard }], guard := some (1, true) }) (v := ?_) rfl (by kernel_rfl) (by kernel_rfl) (by kernel_rfl) (fun _ _ _ h => h) (Or.inl ⟨by rfl, ?hyR26⟩) (by assumption) ?_
          case hyR26 => (intro w hSw; (try dsimp only at hSw); go_simp; try with_reducible rfl)
          (try simp only [Act.put, List.setIfInBounds_toArray, List.set_cons_zero, List.set_cons_succ])
          refine wpAnyH_take (i := 27) (oi := { dst := some 69, op := Op.move (Operand.tmp 0), type := 40, pos := "law.go:78", after := #[{ on := 1, ground := Ground.guard }], guard := some (1, true) }) (v := ?_) rfl (by kernel_rfl) (by kernel_rfl) (by kernel_rfl) (fun _ _ _ h => h) (Or.inl ⟨by rfl, ?hyR27⟩) (by assumption) ?_
          case hyR27 => (intro w hSw; (try dsimp only at hSw); go_simp; try with_reducible rfl)
          (try simp only [Act.put, List.setIfInBounds_toArray, List.set_cons_zero, List.set_cons_succ])
          refine wpAnyH_take (i := 28) (oi := { dst := some 70, op := Op.move (Operand.tmp 8), type := 3, pos := "law.go:78", after := #[{ on := 1, ground := Ground.guard }], guard := some (1, true) }) (v := ?_) rfl (by kernel_rfl) (by kernel_rfl) (by kernel_rfl) (fun _ _ _ h => h) (Or.inl ⟨by rfl, ?hyR28⟩) (by assumption) ?_
          case hyR28 => (intro w hSw; (try dsimp only at hSw); go_simp; try with_reducible rfl)
          (try simp only [Act.put, List.setIfInBounds_toArray, List.set_cons_zero, List.set_cons_succ])
          refine wpAnyH_take (i := 29) (oi := { dst := some 71, op := Op.indexAddr 40 (Operand.tmp 69) (Operand.tmp 70), type := 0, pos := "law.go:78", after := #[{ on := 27, ground := Ground.data }, { on := 28, ground := Ground.data }, { on := 1, ground := Ground.guard }], guard := some (1, true) }) (v := ?_) rfl (by kernel_rfl) (by kernel_rfl) (by kernel_rfl) (fun _ _ _ h => h) (Or.inl ⟨by rfl, ?hyR29⟩) (by assumption) ?_
          case hyR29 => (intro w hSw; (try dsimp only at hSw); go_simp; try with_reducible rfl)
          (try simp only [Act.put, List.setIfInBounds_toArray, List.set_cons_zero, List.set_cons_succ])
          refine wpAnyH_take (i := 30) (oi := { dst := some 72, op := Op.load 2 (Operand.tmp 71), type := 2, pos := "law.go:78", after := #[{ on := 29, ground := Ground.data }, { on := 1, ground := Ground.guard }], guard := some (1, true) }) (v := ?_) rfl (by kernel_rfl) (by kernel_rfl) (by kernel_rfl) (fun _ _ _ h => h) (Or.inl ⟨by rfl, ?hyR30⟩) (by assumption) ?_
          case hyR30 => (intro w hSw; (try dsimp only at hSw); go_simp; try with_reducible rfl)
          (try simp only [Act.put, List.setIfInBounds_toArray, List.set_cons_zero, List.set_cons_succ])
          refine wpAnyH_take (i := 31) (oi := { dst := some 73, op := Op.binOp BinOp.gtr 2 (Operand.tmp 68) (Operand.tmp 72) 2, type := 4, pos := "law.go:78", after := #[{ on := 26, ground := Ground.data }, { on := 30, ground := Ground.data }, { on := 1, ground := Ground.guard }], guard := some (1, true) }) (v := ?_) rfl (by kernel_rfl) (by kernel_rfl) (by kernel_rfl) (fun _ _ _ h => h) (Or.inl ⟨by rfl, ?hyR31⟩) (by assumption) ?_
          case hyR31 => (intro w hSw; (try dsimp only at hSw); go_simp; try with_reducible rfl)
          (try simp only [Act.put, List.setIfInBounds_toArray, List.set_cons_zero, List.set_cons_succ])
          refine wpAnyH_take (i := 32) (oi := { dst := some 74, op := Op.move (Operand.tmp 0), type := 40, pos := "law.go:78", after := #[{ on := 1, ground := Ground.guard }], guard := some (1, true) }) (v := ?_) rfl (by kernel_rfl) (by kernel_rfl) (by kernel_rfl) (fun _ _ _ h => h) (Or.inl ⟨by rfl, ?hyR32⟩) (by assumption) ?_
          case hyR32 => (intro w hSw; (try dsimp only at hSw); go_simp; try with_reducible rfl)
          (try simp only [Act.put, List.setIfInBounds_toArray, List.set_cons_zero, List.set_cons_succ])
          refine wpAnyH_take (i := 33) (oi := { dst := some 75, op := Op.move (Operand.tmp 8), type := 3, pos := "law.go:78", after := #[{ on := 1, ground := Ground.guard }], guard := some (1, true) }) (v := ?_) rfl (by kernel_rfl) (by kernel_rfl) (by kernel_rfl) (fun _ _ _ h => h) (Or.inl ⟨by rfl, ?hyR33⟩) (by assumption) ?_
          case hyR33 => (intro w hSw; (try dsimp only at hSw); go_simp; try with_reducible rfl)
          (try simp only [Act.put, List.setIfInBounds_toArray, List.set_cons_zero, List.set_cons_succ])
          refine wpAnyH_take (i := 34) (oi := { dst := some 76, op := Op.binOp BinOp.sub 3 (Operand.tmp 75) (Operand.const (Value.int IntKind.i64 1)) 3, type := 3, pos := "law.go:78", after := #[{ on := 33, ground := Ground.data }, { on := 1, ground := Ground.guard }], guard := some (1, true) }) (v := ?_) rfl (by kernel_rfl) (by kernel_rfl) (by kernel_rfl) (fun _ _ _ h => h) (Or.inl ⟨by rfl, ?hyR34⟩) (by assumption) ?_
          case hyR34 => (intro w hSw; (try dsimp only at hSw); go_simp; try with_reducible rfl)
          (try simp only [Act.put, List.setIfInBounds_toArray, List.set_cons_zero, List.set_cons_succ])
          refine wpAnyH_take (i := 35) (oi := { dst := some 77, op := Op.indexAddr 40 (Operand.tmp 74) (Operand.tmp 76), type := 0, pos := "law.go:78", after := #[{ on := 32, ground := Ground.data }, { on := 34, ground := Ground.data }, { on := 1, ground := Ground.guard }], guard := some (1, true) }) (v := ?_) rfl (by kernel_rfl) (by kernel_rfl) (by kernel_rfl) (fun _ _ _ h => h) (Or.inl ⟨by rfl, ?hyR35⟩) (by assumption) ?_
          case hyR35 => (intro w hSw; (try dsimp only at hSw); go_simp; try with_reducible rfl)
          (try simp only [Act.put, List.setIfInBounds_toArray, List.set_cons_zero, List.set_cons_succ])
          refine wpAnyH_take (i := 36) (oi := { dst := some 78, op := Op.load 2 (Operand.tmp 77), type := 2, pos := "law.go:78", after := #[{ on := 35, ground := Ground.data }, { on := 1, ground := Ground.guard }], guard := some (1, true) }) (v := ?_) rfl (by kernel_rfl) (by kernel_rfl) (by kernel_rfl) (fun _ _ _ h => h) (Or.inl ⟨by rfl, ?hyR36⟩) (by assumption) ?_
          case hyR36 => (intro w hSw; (try dsimp only at hSw); go_simp; try with_reducible rfl)
          (try simp only [Act.put, List.setIfInBounds_toArray, List.set_cons_zero, List.set_cons_succ])
          refine wpAnyH_take (i := 37) (oi := { dst := some 79, op := Op.move (Operand.tmp 0), type := 40, pos := "law.go:78", after := #[{ on := 1, ground := Ground.guard }], guard := some (1, true) }) (v := ?_) rfl (by kernel_rfl) (by kernel_rfl) (by kernel_rfl) (fun _ _ _ h => h) (Or.inl ⟨by rfl, ?hyR37⟩) (by assumption) ?_
          case hyR37 => (intro w hSw; (try dsimp only at hSw); go_simp; try with_reducible rfl)
          (try simp only [Act.put, List.setIfInBounds_toArray, List.set_cons_zero, List.set_cons_succ])
          refine wpAnyH_take (i := 38) (oi := { dst := some 80, op := Op.move (Operand.tmp 8), type := 3, pos := "law.go:78", after := #[{ on := 1, ground := Ground.guard }], guard := some (1, true) }) (v := ?_) rfl (by kernel_rfl) (by kernel_rfl) (by kernel_rfl) (fun _ _ _ h => h) (Or.inl ⟨by rfl, ?hyR38⟩) (by assumption) ?_
          case hyR38 => (intro w hSw; (try dsimp only at hSw); go_simp; try with_reducible rfl)
          (try simp only [Act.put, List.setIfInBounds_toArray, List.set_cons_zero, List.set_cons_succ])
          refine wpAnyH_take (i := 39) (oi := { dst := some 81, op := Op.indexAddr 40 (Operand.tmp 79) (Operand.tmp 80), type := 0, pos := "law.go:78", after := #[{ on := 37, ground := Ground.data }, { on := 38, ground := Ground.data }, { on := 1, ground := Ground.guard }], guard := some (1, true) }) (v := ?_) rfl (by kernel_rfl) (by kernel_rfl) (by kernel_rfl) (fun _ _ _ h => h) (Or.inl ⟨by rfl, ?hyR39⟩) (by assumption) ?_
          case hyR39 => (intro w hSw; (try dsimp only at hSw); go_simp; try with_reducible rfl)
          (try simp only [Act.put, List.setIfInBounds_toArray, List.set_cons_zero, List.set_cons_succ])
          refine wpAnyH_take (i := 40) (oi := { dst := some 82, op := Op.load 2 (Operand.tmp 81), type := 2, pos := "law.go:78", after := #[{ on := 39, ground := Ground.data }, { on := 1, ground := Ground.guard }], guard := some (1, true) }) (v := ?_) rfl (by kernel_rfl) (by kernel_rfl) (by kernel_rfl) (fun _ _ _ h => h) (Or.inl ⟨by rfl, ?hyR40⟩) (by assumption) ?_
          case hyR40 => (intro w hSw; (try dsimp only at hSw); go_simp; try with_reducible rfl)
          (try simp only [Act.put, List.setIfInBounds_toArray, List.set_cons_zero, List.set_cons_succ])
          refine wpAnyH_take (i := 41) (oi := { dst := some 83, op := Op.binOp BinOp.geq 2 (Operand.tmp 78) (Operand.tmp 82) 2, type := 4, pos := "law.go:78", after := #[{ on := 36, ground := Ground.data }, { on := 40, ground := Ground.data }, { on := 1, ground := Ground.guard }], guard := some (1, true) }) (v := ?_) rfl (by kernel_rfl) (by kernel_rfl) (by kernel_rfl) (fun _ _ _ h => h) (Or.inl ⟨by rfl, ?hyR41⟩) (by assumption) ?_
          case hyR41 => (intro w hSw; (try dsimp only at hSw); go_simp; try with_reducible rfl)
          (try simp only [Act.put, List.setIfInBounds_toArray, List.set_cons_zero, List.set_cons_succ])
          refine wpAnyH_take (i := 43) (oi := { dst := some 85, op := Op.move (Operand.tmp 1), type := 5, pos := "law.go:78", after := #[{ on := 1, ground := Ground.guard }], guard := some (1, true) }) (v := ?_) rfl (by kernel_rfl) (by kernel_rfl) (by kernel_rfl) (fun _ _ _ h => h) (Or.inl ⟨by rfl, ?hyR43⟩) (by assumption) ?_
          case hyR43 => (intro w hSw; (try dsimp only at hSw); go_simp; try with_reducible rfl)
          (try simp only [Act.put, List.setIfInBounds_toArray, List.set_cons_zero, List.set_cons_succ])
          refine wpAnyH_take (i := 44) (oi := { dst := some 86, op := Op.binOp BinOp.and 5 (Operand.tmp 85) (Operand.const (Value.int IntKind.u8 3)) 5, type := 5, pos := "law.go:78", after := #[{ on := 43, ground := Ground.data }, { on := 1, ground := Ground.guard }], guard := some (1, true) }) (v := ?_) rfl (by kernel_rfl) (by kernel_rfl) (by kernel_rfl) (fun _ _ _ h => h) (Or.inl ⟨by rfl, ?hyR44⟩) (by assumption) ?_
          case hyR44 => (intro w hSw; (try dsimp only at hSw); go_simp; try with_reducible rfl)
          (try simp only [Act.put, List.setIfInBounds_toArray, List.set_cons_zero, List.set_cons_succ])
          refine wpAnyH_ready (rs := [42]) (by kernel_rfl) (by simp) ?_
          refine AllReadyH.cons (o := { dst := some 84, op := Op.buildSlice 42 4 #[(0, Operand.tmp 53), (1, Operand.tmp 63), (2, Operand.tmp 73), (3, Operand.tmp 83)], type := 42, pos := "law.go:78", after := #[{ on := 11, ground := Ground.data }, { on := 21, ground := Ground.data }, { on := 31, ground := Ground.data }, { on := 41, ground := Ground.data }, { on := 1, ground := Ground.guard }], guard := some (1, true) }) rfl (fun K hK => ?_) AllReadyH.nil
          go_simp
          refine hK.out _ _ ?_ (fun hHeldRm => ?_)
          · obtain ⟨q0, q1, q2, q3⟩ := hHeldR; exact ⟨alloc_cell q0, alloc_cell q1, below_alloc q2 q3, le_alloc q3⟩
          clear hK K hHeldR
          (try simp only [Act.put, List.setIfInBounds_toArray, List.set_cons_zero, List.set_cons_succ])
          refine wpAnyH_take (i := 45) (oi := { dst := some 87, op := Op.indexAddr 42 (Operand.tmp 84) (Operand.tmp 86), type := 0, pos := "law.go:78", after := #[{ on := 42, ground := Ground.data }, { on := 44, ground := Ground.data }, { on := 1, ground := Ground.guard }], guard := some (1, true) }) (v := ?_) rfl (by kernel_rfl) (by kernel_rfl) (by kernel_rfl) (fun _ _ _ h => h) (Or.inl ⟨by rfl, ?hyR45⟩) (by assumption) ?_
          case hyR45 => (intro w hSw; (try dsimp only at hSw); go_simp; try with_reducible rfl)
          (try simp only [Act.put, List.setIfInBounds_toArray, List.set_cons_zero, List.set_cons_succ])
          refine wpAnyH_ready (rs := [46]) (by kernel_rfl) (by simp) ?_
          refine AllReadyH.cons (o := { dst := some 88, op := Op.load 4 (Operand.tmp 87), type := 4, pos := "law.go:78", after := #[{ on := 45, ground := Ground.data }, { on := 1, ground := Ground.guard }], guard := some (1, true) }) rfl (fun K hK => ?_) AllReadyH.nil
          go_simp
          refine hK.out _ _ ?_ (fun hHeldRmm => ?_)
          · exact hHeldRm
          clear hK K hHeldRm
          (try simp only [Act.put, List.setIfInBounds_toArray, List.set_cons_zero, List.set_cons_succ])
          refine wpAnyH_take (i := 47) (oi := { dst := some 89, op := Op.pick (Operand.tmp 43) (Operand.tmp 88) (Operand.const (Value.bool false)), type := 4, pos := "law.go:78", after := #[{ on := 1, ground := Ground.data }, { on := 46, ground := Ground.data }], guard := none }) (v := ?_) rfl (by kernel_rfl) (by kernel_rfl) (by kernel_rfl) (fun _ _ _ h => h) (Or.inl ⟨by rfl, ?hyR47⟩) (by assumption) ?_
          case hyR47 => (intro w hSw; (try dsimp only at hSw); go_simp; try with_reducible rfl)
          (try simp only [Act.put, List.setIfInBounds_toArray, List.set_cons_zero, List.set_cons_succ])
          refine wpAnyH_take (i := 48) (oi := { dst := some 7, op := Op.assign (Operand.tmp 89), type := 4, pos := "law.go:78", after := #[{ on := 47, ground := Ground.data }, { on := 1, ground := Ground.chain }, { on := 0, ground := Ground.phase }, { on := 1, ground := Ground.phase }, { on := 2, ground := Ground.phase }, { on := 3, ground := Ground.phase }, { on := 4, ground := Ground.phase }, { on := 5, ground := Ground.phase }, { on := 6, ground := Ground.phase }, { on := 7, ground := Ground.phase }, { on := 8, ground := Ground.phase }, { on := 9, ground := Ground.phase }, { on := 10, ground := Ground.phase }, { on := 11, ground := Ground.phase }, { on := 12, ground := Ground.phase }, { on := 13, ground := Ground.phase }, { on := 14, ground := Ground.phase }, { on := 15, ground := Ground.phase }, { on := 16, ground := Ground.phase }, { on := 17, ground := Ground.phase }, { on := 18, ground := Ground.phase }, { on := 19, ground := Ground.phase }, { on := 20, ground := Ground.phase }, { on := 21, ground := Ground.phase }, { on := 22, ground := Ground.phase }, { on := 23, ground := Ground.phase }, { on := 24, ground := Ground.phase }, { on := 25, ground := Ground.phase }, { on := 26, ground := Ground.phase }, { on := 27, ground := Ground.phase }, { on := 28, ground := Ground.phase }, { on := 29, ground := Ground.phase }, { on := 30, ground := Ground.phase }, { on := 31, ground := Ground.phase }, { on := 32, ground := Ground.phase }, { on := 33, ground := Ground.phase }, { on := 34, ground := Ground.phase }, { on := 35, ground := Ground.phase }, { on := 36, ground := Ground.phase }, { on := 37, ground := Ground.phase }, { on := 38, ground := Ground.phase }, { on := 39, ground := Ground.phase }, { on := 40, ground := Ground.phase }, { on := 41, ground := Ground.phase }, { on := 42, ground := Ground.phase }, { on := 43, ground := Ground.phase }, { on := 44, ground := Ground.phase }, { on := 45, ground := Ground.phase }, { on := 46, ground := Ground.phase }, { on := 47, ground := Ground.phase }], guard := none }) (v := ?_) rfl (by kernel_rfl) (by kernel_rfl) (by kernel_rfl) (fun _ _ _ h => h) (Or.inl ⟨by rfl, ?hyR48⟩) (by assumption) ?_
          case hyR48 => (intro w hSw; (try dsimp only at hSw); go_simp; try with_reducible rfl)
          (try simp only [Act.put, List.setIfInBounds_toArray, List.set_cons_zero, List.set_cons_succ])
          refine wpAnyH_done (by kernel_rfl) ?_ _
          obtain ⟨_, _, hbl, _⟩ := hHeldRmm
          go_wp2
          go_roundw
          case rel => exact ⟨m + 2, _, by omega, by go_num, rfl, bown_next HO4.out hbl, next_trans' HB4.out hbl, HQ2⟩
          case measure => simp [intOf]; omega
    · have hki : ¬ (n : Int) < (N : Int) := by omega
      have hnN : n = N := by omega
      subst hnN
      have HO2 := HO.out
      have HQ2 := HQ.out
      rw [List.take_of_length_le (by rw [HN.out]; exact Nat.le_refl _)] at HO2 HQ2
      obtain ⟨g, cap2, rfl, _, HI, _, _⟩ := own_block (by rw [valsOf_len]; exact HN.out) (by omega) HO2
      have HI2 : Hid (IsVals wr (some ⟨g, 0, none⟩) (valsOf l)) := HI
      have HAq : Hid (applyR (code ⟨#[60, 61]⟩) (valsOf l) = (⟨2, 0, boolS q⟩, 0)) := by rw [Hid, HAp.out, HQ2]
      have HTr : Hid (TabW wr) := tab_next HT.out HWr.out
      have HLn : Hid ((valsOf l).length = n) := by rw [Hid, valsOf_len]; exact HN.out
      have HRr : Hid (∀ u ∈ valsOf l, rightV u) := rights_of HL.out
      clear HO HO2 HQ HQ2 HI HAp
      go_wp2_with fail
      refine (apply_any ⟨#[60, 61]⟩ 2 0 0 (boolS q) _ cap2 n _ _ HLn.out (by omega) HI2.out HRr.out HTr.out HAq.out).mono ?_
      rintro e w5 ⟨rfl, hb5⟩
      obtain ⟨x1, Hx1⟩ : ∃ x1, w5.heap.size = x1 := ⟨_, rfl⟩
      obtain ⟨W, HWe⟩ : ∃ W, W = w5.alloc (.cells #[.int .i64 2, .int .i64 0, .string (boolS q)] 26) := ⟨_, rfl⟩
      have g0 : W.drew.cell? ⟨x1, 0, none⟩ = some (.int .i64 2) := by rw [HWe]; exact box_cell Hx1.symm rfl
      have g1 : W.drew.cell? ⟨x1, 1, none⟩ = some (.int .i64 0) := by rw [HWe]; exact box_cell Hx1.symm rfl
      have g2 : W.drew.cell? ⟨x1, 2, none⟩ = some (.string (boolS q)) := by rw [HWe]; exact box_cell Hx1.symm rfl
      have s0 : Below w.heap.size w W.drew := by rw [HWe]; exact (next_trans' (next_trans' HWr.out hb5) (alloc_below' _ _)).drew
      have s1 : w.heap.size ≤ W.drew.heap.size := s0.size
      clear hb5 HI2 HTr HWr HV HL HT HRr HLn HAq
      go_wp2_with fail
      rw [← HWe]
      clear HWe
      refine wp_region_held_drew (S := (fun w' => w'.cell? ⟨x1, 0, none⟩ = some (.int .i64 2) ∧ w'.cell? ⟨x1, 1, none⟩ = some (.int .i64 0) ∧ w'.cell? ⟨x1, 2, none⟩ = some (.string (boolS q)) ∧ Below w.heap.size w w' ∧ w.heap.size ≤ w'.heap.size)) (by kernel_rfl) ?_ (fun hHeldA => ?_)
      · exact ⟨g0, g1, g2, s0, s1⟩
      refine wpAnyH_take (i := 0) (oi := { dst := some 96, op := Op.move (Operand.tmp 10), type := 27, pos := "law.go:82", after := #[], guard := none }) (v := ?_) rfl (by kernel_rfl) (by kernel_rfl) (by kernel_rfl) (fun _ _ _ h => h) (Or.inl ⟨by rfl, ?hyA0⟩) (by assumption) ?_
      case hyA0 => (intro w hSw; (try dsimp only at hSw); go_simp; try with_reducible rfl)
      (try simp only [Act.put, List.setIfInBounds_toArray, List.set_cons_zero, List.set_cons_succ])
      refine wpAnyH_take (i := 1) (oi := { dst := some 97, op := Op.binOp BinOp.eql 3 (Operand.tmp 96) (Operand.const (Value.int IntKind.i64 0)) 3, type := 4, pos := "law.go:82", after := #[{ on := 0, ground := Ground.data }], guard := none }) (v := ?_) rfl (by kernel_rfl) (by kernel_rfl) (by kernel_rfl) (fun _ _ _ h => h) (Or.inl ⟨by rfl, ?hyA1⟩) (by assumption) ?_
      case hyA1 => (intro w hSw; (try dsimp only at hSw); go_simp; try with_reducible rfl)
      (try simp only [Act.put, List.setIfInBounds_toArray, List.set_cons_zero, List.set_cons_succ])
      refine wpAnyH_take (i := 2) (oi := { dst := some 98, op := Op.move (Operand.tmp 97), type := 4, pos := "law.go:82", after := #[{ on := 1, ground := Ground.data }], guard := none }) (v := ?_) rfl (by kernel_rfl) (by kernel_rfl) (by kernel_rfl) (fun _ _ _ h => h) (Or.inl ⟨by rfl, ?hyA2⟩) (by assumption) ?_
      case hyA2 => (intro w hSw; (try dsimp only at hSw); go_simp; try with_reducible rfl)
      (try simp only [Act.put, List.setIfInBounds_toArray, List.set_cons_zero, List.set_cons_succ])
      refine wpAnyH_take (i := 3) (oi := { dst := some 99, op := Op.load 26 (Operand.tmp 9), type := 26, pos := "law.go:82", after := #[{ on := 2, ground := Ground.guard }], guard := some (2, true) }) (v := ?_) rfl (by kernel_rfl) (by kernel_rfl) (by kernel_rfl) (fun _ _ _ h => h) (Or.inl ⟨by rfl, ?hyA3⟩) (by assumption) ?_
      case hyA3 => (intro w hSw; (try dsimp only at hSw); go_simp; try with_reducible rfl)
      (try simp only [Act.put, List.setIfInBounds_toArray, List.set_cons_zero, List.set_cons_succ])
      refine wpAnyH_take (i := 4) (oi := { dst := some 100, op := Op.move (Operand.tmp 7), type := 4, pos := "law.go:82", after := #[{ on := 2, ground := Ground.guard }], guard := some (2, true) }) (v := ?_) rfl (by kernel_rfl) (by kernel_rfl) (by kernel_rfl) (fun _ _ _ h => h) (Or.inl ⟨by rfl, ?hyA4⟩) (by assumption) ?_
      case hyA4 => (intro w hSw; (try dsimp only at hSw); go_simp; try with_reducible rfl)
      (try simp only [Act.put, List.setIfInBounds_toArray, List.set_cons_zero, List.set_cons_succ])
      refine wpAnyH_ready (rs := [5]) (by kernel_rfl) (by simp) ?_
      refine AllReadyH.cons (o := { dst := some 101, op := Op.call { callee := Callee.value (Operand.func 21), args := #[Operand.tmp 100], argTypes := #[4] }, type := 26, pos := "law.go:82", after := #[{ on := 4, ground := Ground.data }, { on := 2, ground := Ground.chain }, { on := 2, ground := Ground.guard }], guard := some (2, true) }) rfl (fun K hK => ?_) AllReadyH.nil
      go_simp
      with_reducible refine (rbool_any _ _).mono ?_
      rintro e w' ⟨rfl, hb⟩
      refine hK.out _ _ ?_ (fun hHeldAx => ?_)
      · obtain ⟨q0, q1, q2, q3, q4⟩ := hHeldA
        exact ⟨keep_cell hb q0, keep_cell hb q1, keep_cell hb q2, below_next q3 hb q4, le_next q4 hb⟩
      clear hK K hb hHeldA
      (try simp only [Act.put, List.setIfInBounds_toArray, List.set_cons_zero, List.set_cons_succ])
      refine wpAnyH_ready (rs := [6]) (by kernel_rfl) (by simp) ?_
      refine AllReadyH.cons (o := { dst := some 102, op := Op.call { callee := Callee.value (Operand.func 15), args := #[Operand.tmp 99, Operand.tmp 101], argTypes := #[26, 26] }, type := 4, pos := "law.go:82", after := #[{ on := 3, ground := Ground.data }, { on := 5, ground := Ground.data }, { on := 5, ground := Ground.chain }, { on := 2, ground := Ground.guard }], guard := some (2, true) }) rfl (fun K hK => ?_) AllReadyH.nil
      go_simp
      with_reducible refine (HRf.out _ _ _ _).mono ?_
      rintro e w' ⟨rfl, hb⟩
      refine hK.out _ _ ?_ (fun hHeldAxx => ?_)
      · obtain ⟨q0, q1, q2, q3, q4⟩ := hHeldAx
        exact ⟨keep_cell hb q0, keep_cell hb q1, keep_cell hb q2, below_next q3 hb q4, le_next q4 hb⟩
      clear hK K hb hHeldAx
      (try simp only [Act.put, List.setIfInBounds_toArray, List.set_cons_zero, List.set_cons_succ])
      refine wpAnyH_take (i := 7) (oi := { dst := some 103, op := Op.pick (Operand.tmp 98) (Operand.tmp 102) (Operand.const (Value.bool false)), type := 4, pos := "law.go:82", after := #[{ on := 2, ground := Ground.data }, { on := 6, ground := Ground.data }], guard := none }) (v := ?_) rfl (by kernel_rfl) (by kernel_rfl) (by kernel_rfl) (fun _ _ _ h => h) (Or.inl ⟨by rfl, ?hyA7⟩) (by assumption) ?_
      case hyA7 => (intro w hSw; (try dsimp only at hSw); go_simp; try with_reducible rfl)
      (try simp only [Act.put, List.setIfInBounds_toArray, List.set_cons_zero, List.set_cons_succ])
      refine wpAnyH_take (i := 8) (oi := { dst := some 4, op := Op.assign (Operand.tmp 103), type := 4, pos := "law.go:82", after := #[{ on := 7, ground := Ground.data }, { on := 6, ground := Ground.chain }, { on := 0, ground := Ground.phase }, { on := 1, ground := Ground.phase }, { on := 2, ground := Ground.phase }, { on := 3, ground := Ground.phase }, { on := 4, ground := Ground.phase }, { on := 5, ground := Ground.phase }, { on := 6, ground := Ground.phase }, { on := 7, ground := Ground.phase }], guard := none }) (v := ?_) rfl (by kernel_rfl) (by kernel_rfl) (by kernel_rfl) (fun _ _ _ h => h) (Or.inl ⟨by rfl, ?hyA8⟩) (by assumption) ?_
      case hyA8 => (intro w hSw; (try dsimp only at hSw); go_simp; try with_reducible rfl)
      (try simp only [Act.put, List.setIfInBounds_toArray, List.set_cons_zero, List.set_cons_succ])
      refine wpAnyH_done (by kernel_rfl) ?_ _
      obtain ⟨_, _, _, hbl, _⟩ := hHeldAxx
      go_wp2
      go_ret
      exact ⟨rfl, hbl⟩

set_option maxHeartbeats 8000000 in
set_option maxRecDepth 100000 in
theorem chains_2 (ao : Option Addr) (N cap : Nat) (l : List Int) (a : Int) (w : World) (hwh : bits BinOp.and IntKind.u8 a 3 = 2) (h1 : 2 ≤ N) (h2 : N ≤ 30) (hN : l.length = N) (hv : IntsW w ao l) (hl : ∀ z ∈ l, inB z = true) (ht : TabW w) :
    Calls Tryd.prog 5 #[.slice ao N cap, .int .u8 a] w fun e w' => e = .returned (.bool true) ∧ Below w.heap.size w w' := by
  obtain ⟨i0, hi, hz0, hz1, hz2⟩ := infoVal'
  have HT : Hid (TabW w) := ht
  have HV : Hid (IntsW w ao l) := hv
  have HL : Hid (∀ z ∈ l, inB z = true) := hl
  have HN : Hid (l.length = N) := hN
  have h1' : ¬ (N : Int) < 2 := by omega
  have h2' : ¬ (30 : Int) < (N : Int) := by omega
  have HRf : Hid (∀ (k i : Int) (s : ByteArray) (w : World), Calls Tryd.prog 15 #[.agg #[.int .i64 (k), .int .i64 (i), .string (s)], .agg #[.int .i64 (k), .int .i64 (i), .string (s)]] w fun e w' => e = .returned (.bool true) ∧ Below w.heap.size w w') := by
    intro k i s w; rw [← sameB_refl k i s]; exact rsame_any k i k i s s w
  have HAp : Hid (applyR (code ⟨#[62]⟩) (valsOf l) = (⟨2, 0, boolS (chainB 7 l)⟩, 0)) := ch_apply (c := 7) (by decide) (by decide) (fun L => rfl) (by decide) (by decide) (by decide) (by rw [HN.out]; exact h1)
  clear ht hv hl hN
  go_enter Tryd.func5, Tryd.ntmps5
  go_wp2_with fail
  refine (known6 _ HT.out).mono ?_
  rintro e w1 ⟨rfl, hb1⟩
  have b1 : Hid (Below w.heap.size w (w1.alloc (.cells #[.string ⟨#[60]⟩, .string ⟨#[60, 61]⟩, .string ⟨#[62]⟩, .string ⟨#[62, 61]⟩] 9))) := next_trans' hb1 (alloc_below' _ _)
  clear hb1
  go_wp2
  go_loopw [6, 7, 8] (fun x p y wr => ∃ (n : Nat) (q : Bool), n ≤ N ∧ y = .int .i64 n ∧ p = .bool q ∧ Hid (wr.ownsRow w.heap.size 26 3 x n (valsC (valsOf (l.take n)))) ∧ Hid (Below w.heap.size w wr) ∧ Hid (chainB 7 (l.take n) = q)) (fun _ _ y _ => N - (intOf y).toNat)
  case atStart => exact ⟨0, true, Nat.zero_le _, rfl, rfl, World.ownsRow_nil _ _ _ _, b1, rfl⟩
  case round =>
    obtain ⟨n, q, hn, rfl, rfl, HO, HWr, HQ⟩ := hrel
    clear b1
    by_cases hlt : n < N
    · have hki : (n : Int) < (N : Int) := by omega
      obtain ⟨z, HG⟩ : ∃ z, Hid (l[n]? = some z) := ⟨_, List.getElem?_eq_getElem (by rw [HN.out]; exact hlt)⟩
      obtain ⟨b, o, rfl, cz⟩ := (HV.out.next HWr.out) n z HG.out
      go_wp2_with fail
      refine (rint_any z _).mono ?_
      rintro e w3 ⟨rfl, hb3⟩
      have HB3 : Hid (Below w.heap.size w w3) := next_trans' HWr.out hb3
      have HO3 : Hid (w3.ownsRow w.heap.size 26 3 u6 n (valsC (valsOf (l.take n)))) := bown_next HO.out hb3
      clear hb3 HO cz
      go_wp2_with (at_builtin; refine wpList_append_own _ rfl _ _ 22 rfl w.heap.size 26 i0 (.agg #[.int .i64 (0), .int .i64 (0), .string (⟨#[]⟩)]) 3 32 Tryd.underlying22 hi hz0 hz1 hz2 rfl (by decide) _ _ _ rfl (HO3.out.alloc _) ⟨w3.heap.size, 0, none⟩ 1 1 [.int .i64 1, .int .i64 z, .string ⟨#[]⟩] rfl rfl ?c1 ?c2 ?c3 ?c4 ?c5 ?_)
      case c1 =>
        intro j u hj
        match j, hj with
        | 0, hj => simp at hj; subst hj; simp [Addr.add]
        | 1, hj => simp at hj; subst hj; simp [Addr.add]
        | 2, hj => simp at hj; subst hj; simp [Addr.add]
      case c2 => intro u hu; simp at hu; rcases hu with rfl | rfl | rfl <;> rfl
      case c3 => unfold maxLen; omega
      case c4 => omega
      case c5 => have := HB3.out.size; simp; omega
      intro v' w4 ho hg _
      have HO4 : Hid (w4.ownsRow w.heap.size 26 3 v' (n + 1) (valsC (valsOf (l.take (n + 1))))) := by
        rw [Hid, valsOf_take HG.out, ← valsC_app]; exact ho
      have HB4 : Hid (Below w.heap.size w w4) := by
        have hs := HB3.out.size
        refine HB3.out.trans (((Below.refl _ w3).alloc hs _).grown hg (by simp; omega) (fun q hq => ?_))
        exact (HO3.out.lt q hq).1
      clear ho hg HO3 HB3
      by_cases hz : n = 0
      · have hz' : ¬ (0 : Int) < (n : Int) := by omega
        have HQ2 : Hid (chainB 7 (l.take (n + 1)) = q) := by
          subst hz
          rw [Hid, chain_one]
          exact HQ.out
        clear hz
        go_wp2
        go_roundw
        case rel => exact ⟨n + 1, q, by omega, by go_num, rfl, HO4, HB4, HQ2⟩
        case measure => simp [intOf]; omega
      · obtain ⟨m, rfl⟩ : ∃ m, n = m + 1 := ⟨n - 1, by omega⟩
        obtain ⟨y, HGy⟩ : ∃ y, Hid (l[m]? = some y) := ⟨_, List.getElem?_eq_getElem (by rw [HN.out]; omega)⟩
        obtain ⟨b', o', eo, cy⟩ := (HV.out.next HB4.out) m y HGy.out
        obtain ⟨rfl, rfl⟩ : b' = b ∧ o' = o := by injection eo with e; injection e with e1 e2; exact ⟨e1.symm, e2.symm⟩
        obtain ⟨b2, o2, eo2, cz⟩ := (HV.out.next HB4.out) (m + 1) z HG.out
        obtain ⟨rfl, rfl⟩ : b2 = b' ∧ o2 = o' := by injection eo2 with e; injection e with e1 e2; exact ⟨e1.symm, e2.symm⟩
        have hz' : (0 : Int) < ((m + 1 : Nat) : Int) := by omega
        have hm0 : (0 : Int) ≤ (m : Int) := by omega
        have hm1 : (m : Int) < (N : Int) := by omega
        have hm2 : (m : Int) + 1 < (N : Int) := by omega
        have hm3 : (0 : Int) ≤ (m : Int) + 1 := by omega
        have hwm : IntKind.i64.wrap (m : Int) = (m : Int) := by rw [IntKind.wrap_i64]; omega
        have HQ2 : Hid (chainB 7 (l.take (m + 2)) = (q && standB 7 y z)) := by rw [Hid, chain_take _ _ m y z HGy.out HG.out, HQ.out]
        clear eo eo2
        cases q
        · go_wp2
          go_quiet (fail)
          go_wp2
          go_roundw
          case rel => exact ⟨m + 2, false, by omega, by go_num, rfl, HO4, HB4.out.trans ((show SameW w4 (w4.drewN _) from ⟨_, rfl⟩).below _), HQ2⟩
          case measure => simp [intOf]; omega
        · go_wp2
          refine wp_region_held_drew (S := (fun w' => w'.cell? ⟨b2, o2 + m, none⟩ = some (.int .i64 y) ∧ w'.cell? ⟨b2, o2 + (m + 1), none⟩ = some (.int .i64 z) ∧ Below w4.heap.size w4 w' ∧ w4.heap.size ≤ w'.heap.size)) (by kernel_rfl) ?_ (fun hHeldR => ?_)
          · exact ⟨cy, cz, (Below.refl _ _).drew, Nat.le_refl _⟩
          refine wpAnyH_take (i := 0) (oi := { dst := some 42, op := Op.move (Operand.tmp 7), type := 4, pos := "law.go:78", after := #[], guard := none }) (v := ?_) rfl (by kernel_rfl) (by kernel_rfl) (by kernel_rfl) (fun _ _ _ h => h) (Or.inl ⟨by rfl, ?hyR0⟩) (by assumption) ?_
          case hyR0 => (intro w hSw; (try dsimp only at hSw); go_simp; try with_reducible rfl)
          (try simp only [Act.put, List.setIfInBounds_toArray, List.set_cons_zero, List.set_cons_succ])
          refine wpAnyH_take (i := 1) (oi := { dst := some 43, op := Op.move (Operand.tmp 42), type := 4, pos := "law.go:78", after := #[{ on := 0, ground := Ground.data }], guard := none }) (v := ?_) rfl (by kernel_rfl) (by kernel_rfl) (by kernel_rfl) (fun _ _ _ h => h) (Or.inl ⟨by rfl, ?hyR1⟩) (by assumption) ?_
          case hyR1 => (intro w hSw; (try dsimp only at hSw); go_simp; try with_reducible rfl)
          (try simp only [Act.put, List.setIfInBounds_toArray, List.set_cons_zero, List.set_cons_succ])
          refine wpAnyH_take (i := 2) (oi := { dst := some 44, op := Op.move (Operand.tmp 0), type := 40, pos := "law.go:78", after := #[{ on := 1, ground := Ground.guard }], guard := some (1, true) }) (v := ?_) rfl (by kernel_rfl) (by kernel_rfl) (by kernel_rfl) (fun _ _ _ h => h) (Or.inl ⟨by rfl, ?hyR2⟩) (by assumption) ?_
          case hyR2 => (intro w hSw; (try dsimp only at hSw); go_simp; try with_reducible rfl)
          (try simp only [Act.put, List.setIfInBounds_toArray, List.set_cons_zero, List.set_cons_succ])
          refine wpAnyH_take (i := 3) (oi := { dst := some 45, op := Op.move (Operand.tmp 8), type := 3, pos := "law.go:78", after := #[{ on := 1, ground := Ground.guard }], guard := some (1, true) }) (v := ?_) rfl (by kernel_rfl) (by kernel_rfl) (by kernel_rfl) (fun _ _ _ h => h) (Or.inl ⟨by rfl, ?hyR3⟩) (by assumption) ?_
          case hyR3 => (intro w hSw; (try dsimp only at hSw); go_simp; try with_reducible rfl)
          (try simp only [Act.put, List.setIfInBounds_toArray, List.set_cons_zero, List.set_cons_succ])
          refine wpAnyH_take (i := 4) (oi := { dst := some 46, op := Op.binOp BinOp.sub 3 (Operand.tmp 45) (Operand.const (Value.int IntKind.i64 1)) 3, type := 3, pos := "law.go:78", after := #[{ on := 3, ground := Ground.data }, { on := 1, ground := Ground.guard }], guard := some (1, true) }) (v := ?_) rfl (by kernel_rfl) (by kernel_rfl) (by kernel_rfl) (fun _ _ _ h => h) (Or.inl ⟨by rfl, ?hyR4⟩) (by assumption) ?_
          case hyR4 => (intro w hSw; (try dsimp only at hSw); go_simp; try with_reducible rfl)
          (try simp only [Act.put, List.setIfInBounds_toArray, List.set_cons_zero, List.set_cons_succ])
          refine wpAnyH_take (i := 5) (oi := { dst := some 47, op := Op.indexAddr 40 (Operand.tmp 44) (Operand.tmp 46), type := 0, pos := "law.go:78", after := #[{ on := 2, ground := Ground.data }, { on := 4, ground := Ground.data }, { on := 1, ground := Ground.guard }], guard := some (1, true) }) (v := ?_) rfl (by kernel_rfl) (by kernel_rfl) (by kernel_rfl) (fun _ _ _ h => h) (Or.inl ⟨by rfl, ?hyR5⟩) (by assumption) ?_
          case hyR5 => (intro w hSw; (try dsimp only at hSw); go_simp; try with_reducible rfl)
          (try simp only [Act.put, List.setIfInBounds_toArray, List.set_cons_zero, List.set_cons_succ])
          refine wpAnyH_take (i := 6) (oi := { dst := some 48, op := Op.load 2 (Operand.tmp 47), type := 2, pos := "law.go:78", after := #[{ on := 5, ground := Ground.data }, { on := 1, ground := Ground.guard }], guard := some (1, true) }) (v := ?_) rfl (by kernel_rfl) (by kernel_rfl) (by kernel_rfl) (fun _ _ _ h => h) (Or.inl ⟨by rfl, ?hyR6⟩) (by assumption) ?_
          case hyR6 => (intro w hSw; (try dsimp only at hSw); go_simp; try with_reducible rfl)
          (try simp only [Act.put, List.setIfInBounds_toArray, List.set_cons_zero, List.set_cons_succ])
          refine wpAnyH_take (i := 7) (oi := { dst := some 49, op := Op.move (Operand.tmp 0), type := 40, pos := "law.go:78", after := #[{ on := 1, ground := Ground.guard }], guard := some (1, true) }) (v := ?_) rfl (by kernel_rfl) (by kernel_rfl) (by kernel_rfl) (fun _ _ _ h => h) (Or.inl ⟨by rfl, ?hyR7⟩) (by assumption) ?_
          case hyR7 => (intro w hSw; (try dsimp only at hSw); go_simp; try with_reducible rfl)
          (try simp only [Act.put, List.setIfInBounds_toArray, List.set_cons_zero, List.set_cons_succ])
          refine wpAnyH_take (i := 8) (oi := { dst := some 50, op := Op.move (Operand.tmp 8), type := 3, pos := "law.go:78", after := #[{ on := 1, ground := Ground.guard }], guard := some (1, true) }) (v := ?_) rfl (by kernel_rfl) (by kernel_rfl) (by kernel_rfl) (fun _ _ _ h => h) (Or.inl ⟨by rfl, ?hyR8⟩) (by assumption) ?_
          case hyR8 => (intro w hSw; (try dsimp only at hSw); go_simp; try with_reducible rfl)
          (try simp only [Act.put, List.setIfInBounds_toArray, List.set_cons_zero, List.set_cons_succ])
          refine wpAnyH_take (i := 9) (oi := { dst := some 51, op := Op.indexAddr 40 (Operand.tmp 49) (Operand.tmp 50), type := 0, pos := "law.go:78", after := #[{ on := 7, ground := Ground.data }, { on := 8, ground := Ground.data }, { on := 1, ground := Ground.guard }], guard := some (1, true) }) (v := ?_) rfl (by kernel_rfl) (by kernel_rfl) (by kernel_rfl) (fun _ _ _ h => h) (Or.inl ⟨by rfl, ?hyR9⟩) (by assumption) ?_
          case hyR9 => (intro w hSw; (try dsimp only at hSw); go_simp; try with_reducible rfl)
          (try simp only [Act.put, List.setIfInBounds_toArray, List.set_cons_zero, List.set_cons_succ])
          refine wpAnyH_take (i := 10) (oi := { dst := some 52, op := Op.load 2 (Operand.tmp 51), type := 2, pos := "law.go:78", after := #[{ on := 9, ground := Ground.data }, { on := 1, ground := Ground.guard }], guard := some (1, true) }) (v := ?_) rfl (by kernel_rfl) (by kernel_rfl) (by kernel_rfl) (fun _ _ _ h => h) (Or.inl ⟨by rfl, ?hyR10⟩) (by assumption) ?_
          case hyR10 => (intro w hSw; (try dsimp only at hSw); go_simp; try with_reducible rfl)
          (try simp only [Act.put, List.setIfInBounds_toArray, List.set_cons_zero, List.set_cons_succ])
          refine wpAnyH_take (i := 11) (oi := { dst := some 53, op := Op.binOp BinOp.lss 2 (Operand.tmp 48) (Operand.tmp 52) 2, type := 4, pos := "law.go:78", after := #[{ on := 6, ground := Ground.data }, { on := 10, ground := Ground.data }, { on := 1, ground := Ground.guard }], guard := some (1, true) }) (v := ?_) rfl (by kernel_rfl) (by kernel_rfl) (by kernel_rfl) (fun _ _ _ h => h) (Or.inl ⟨by rfl, ?hyR11⟩) (by assumption) ?_
          case hyR11 => (intro w hSw; (try dsimp only at hSw); go_simp; try with_reducible rfl)
          (try simp only [Act.put, List.setIfInBounds_toArray, List.set_cons_zero, List.set_cons_succ])
          refine wpAnyH_take (i := 12) (oi := { dst := some 54, op := Op.move (Operand.tmp 0), type := 40, pos := "law.go:78", after := #[{ on := 1, ground := Ground.guard }], guard := some (1, true) }) (v := ?_) rfl (by kernel_rfl) (by kernel_rfl) (by kernel_rfl) (fun _ _ _ h => h) (Or.inl ⟨by rfl, ?hyR12⟩) (by assumption) ?_
          case hyR12 => (intro w hSw; (try dsimp only at hSw); go_simp; try with_reducible rfl)
          (try simp only [Act.put, List.setIfInBounds_toArray, List.set_cons_zero, List.set_cons_succ])
          refine wpAnyH_take (i := 13) (oi := { dst := some 55, op := Op.move (Operand.tmp 8), type := 3, pos := "law.go:78", after := #[{ on := 1, ground := Ground.guard }], guard := some (1, true) }) (v := ?_) rfl (by kernel_rfl) (by kernel_rfl) (by kernel_rfl) (fun _ _ _ h => h) (Or.inl ⟨by rfl, ?hyR13⟩) (by assumption) ?_
          case hyR13 => (intro w hSw; (try dsimp only at hSw); go_simp; try with_reducible rfl)
          (try simp only [Act.put, List.setIfInBounds_toArray, List.set_cons_zero, List.set_cons_succ])
          refine wpAnyH_take (i := 14) (oi := { dst := some 56, op := Op.binOp BinOp.sub 3 (Operand.tmp 55) (Operand.const (Value.int IntKind.i64 1)) 3, type := 3, pos := "law.go:78", after := #[{ on := 13, ground := Ground.data }, { on := 1, ground := Ground.guard }], guard := some (1, true) }) (v := ?_) rfl (by kernel_rfl) (by kernel_rfl) (by kernel_rfl) (fun _ _ _ h => h) (Or.inl ⟨by rfl, ?hyR14⟩) (by assumption) ?_
          case hyR14 => (intro w hSw; (try dsimp only at hSw); go_simp; try with_reducible rfl)
          (try simp only [Act.put, List.setIfInBounds_toArray, List.set_cons_zero, List.set_cons_succ])
          refine wpAnyH_take (i := 15) (oi := { dst := some 57, op := Op.indexAddr 40 (Operand.tmp 54) (Operand.tmp 56), type := 0, pos := "law.go:78", after := #[{ on := 12, ground := Ground.data }, { on := 14, ground := Ground.data }, { on := 1, ground := Ground.guard }], guard := some (1, true) }) (v := ?_) rfl (by kernel_rfl) (by kernel_rfl) (by kernel_rfl) (fun _ _ _ h => h) (Or.inl ⟨by rfl, ?hyR15⟩) (by assumption) ?_
          case hyR15 => (intro w hSw; (try dsimp only at hSw); go_simp; try with_reducible rfl)
          (try simp only [Act.put, List.setIfInBounds_toArray, List.set_cons_zero, List.set_cons_succ])
          refine wpAnyH_take (i := 16) (oi := { dst := some 58, op := Op.load 2 (Operand.tmp 57), type := 2, pos := "law.go:78", after := #[{ on := 15, ground := Ground.data }, { on := 1, ground := Ground.guard }], guard := some (1, true) }) (v := ?_) rfl (by kernel_rfl) (by kernel_rfl) (by kernel_rfl) (fun _ _ _ h => h) (Or.inl ⟨by rfl, ?hyR16⟩) (by assumption) ?_
          case hyR16 => (intro w hSw; (try dsimp only at hSw); go_simp; try with_reducible rfl)
          (try simp only [Act.put, List.setIfInBounds_toArray, List.set_cons_zero, List.set_cons_succ])
          refine wpAnyH_take (i := 17) (oi := { dst := some 59, op := Op.move (Operand.tmp 0), type := 40, pos := "law.go:78", after := #[{ on := 1, ground := Ground.guard }], guard := some (1, true) }) (v := ?_) rfl (by kernel_rfl) (by kernel_rfl) (by kernel_rfl) (fun _ _ _ h => h) (Or.inl ⟨by rfl, ?hyR17⟩) (by assumption) ?_
          case hyR17 => (intro w hSw; (try dsimp only at hSw); go_simp; try with_reducible rfl)
          (try simp only [Act.put, List.setIfInBounds_toArray, List.set_cons_zero, List.set_cons_succ])
          refine wpAnyH_take (i := 18) (oi := { dst := some 60, op := Op.move (Operand.tmp 8), type := 3, pos := "law.go:78", after := #[{ on := 1, ground := Ground.guard }], guard := some (1, true) }) (v := ?_) rfl (by kernel_rfl) (by kernel_rfl) (by kernel_rfl) (fun _ _ _ h => h) (Or.inl ⟨by rfl, ?hyR18⟩) (by assumption) ?_
          case hyR18 => (intro w hSw; (try dsimp only at hSw); go_simp; try with_reducible rfl)
          (try simp only [Act.put, List.setIfInBounds_toArray, List.set_cons_zero, List.set_cons_succ])
          refine wpAnyH_take (i := 19) (oi := { dst := some 61, op := Op.indexAddr 40 (Operand.tmp 59) (Operand.tmp 60), type := 0, pos := "law.go:78", after := #[{ on := 17, ground := Ground.data }, { on := 18, ground := Ground.data }, { on := 1, ground := Ground.guard }], guard := some (1, true) }) (v := ?_) rfl (by kernel_rfl) (by kernel_rfl) (by kernel_rfl) (fun _ _ _ h => h) (Or.inl ⟨by rfl, ?hyR19⟩) (by assumption) ?_
          case hyR19 => (intro w hSw; (try dsimp only at hSw); go_simp; try with_reducible rfl)
          (try simp only [Act.put, List.setIfInBounds_toArray, List.set_cons_zero, List.set_cons_succ])
          refine wpAnyH_take (i := 20) (oi := { dst := some 62, op := Op.load 2 (Operand.tmp 61), type := 2, pos := "law.go:78", after := #[{ on := 19, ground := Ground.data }, { on := 1, ground := Ground.guard }], guard := some (1, true) }) (v := ?_) rfl (by kernel_rfl) (by kernel_rfl) (by kernel_rfl) (fun _ _ _ h => h) (Or.inl ⟨by rfl, ?hyR20⟩) (by assumption) ?_
          case hyR20 => (intro w hSw; (try dsimp only at hSw); go_simp; try with_reducible rfl)
          (try simp only [Act.put, List.setIfInBounds_toArray, List.set_cons_zero, List.set_cons_succ])
          refine wpAnyH_take (i := 21) (oi := { dst := some 63, op := Op.binOp BinOp.leq 2 (Operand.tmp 58) (Operand.tmp 62) 2, type := 4, pos := "law.go:78", after := #[{ on := 16, ground := Ground.data }, { on := 20, ground := Ground.data }, { on := 1, ground := Ground.guard }], guard := some (1, true) }) (v := ?_) rfl (by kernel_rfl) (by kernel_rfl) (by kernel_rfl) (fun _ _ _ h => h) (Or.inl ⟨by rfl, ?hyR21⟩) (by assumption) ?_
          case hyR21 => (intro w hSw; (try dsimp only at hSw); go_simp; try with_reducible rfl)
          (try simp only [Act.put, List.setIfInBounds_toArray, List.set_cons_zero, List.set_cons_succ])
          refine wpAnyH_take (i := 22) (oi := { dst := some 64, op := Op.move (Operand.tmp 0), type := 40, pos := "law.go:78", after := #[{ on := 1, ground := Ground.guard }], guard := some (1, true) }) (v := ?_) rfl (by kernel_rfl) (by kernel_rfl) (by kernel_rfl) (fun _ _ _ h => h) (Or.inl ⟨by rfl, ?hyR22⟩) (by assumption) ?_
          case hyR22 => (intro w hSw; (try dsimp only at hSw); go_simp; try with_reducible rfl)
          (try simp only [Act.put, List.setIfInBounds_toArray, List.set_cons_zero, List.set_cons_succ])
          refine wpAnyH_take (i := 23) (oi := { dst := some 65, op := Op.move (Operand.tmp 8), type := 3, pos := "law.go:78", after := #[{ on := 1, ground := Ground.guard }], guard := some (1, true) }) (v := ?_) rfl (by kernel_rfl) (by kernel_rfl) (by kernel_rfl) (fun _ _ _ h => h) (Or.inl ⟨by rfl, ?hyR23⟩) (by assumption) ?_
          case hyR23 => (intro w hSw; (try dsimp only at hSw); go_simp; try with_reducible rfl)
          (try simp only [Act.put, List.setIfInBounds_toArray, List.set_cons_zero, List.set_cons_succ])
          refine wpAnyH_take (i := 24) (oi := { dst := some 66, op := Op.binOp BinOp.sub 3 (Operand.tmp 65) (Operand.const (Value.int IntKind.i64 1)) 3, type := 3, pos := "law.go:78", after := #[{ on := 23, ground := Ground.data }, { on := 1, ground := Ground.guard }], guard := some (1, true) }) (v := ?_) rfl (by kernel_rfl) (by kernel_rfl) (by kernel_rfl) (fun _ _ _ h => h) (Or.inl ⟨by rfl, ?hyR24⟩) (by assumption) ?_
          case hyR24 => (intro w hSw; (try dsimp only at hSw); go_simp; try with_reducible rfl)
          (try simp only [Act.put, List.setIfInBounds_toArray, List.set_cons_zero, List.set_cons_succ])
          refine wpAnyH_take (i := 25) (oi := { dst := some 67, op := Op.indexAddr 40 (Operand.tmp 64) (Operand.tmp 66), type := 0, pos := "law.go:78", after := #[{ on := 22, ground := Ground.data }, { on := 24, ground := Ground.data }, { on := 1, ground := Ground.guard }], guard := some (1, true) }) (v := ?_) rfl (by kernel_rfl) (by kernel_rfl) (by kernel_rfl) (fun _ _ _ h => h) (Or.inl ⟨by rfl, ?hyR25⟩) (by assumption) ?_
          case hyR25 => (intro w hSw; (try dsimp only at hSw); go_simp; try with_reducible rfl)
          (try simp only [Act.put, List.setIfInBounds_toArray, List.set_cons_zero, List.set_cons_succ])
          refine wpAnyH_take (i := 26) (oi := { dst := some 68, op := Op.load 2 (Operand.tmp 67), type := 2, pos := "law.go:78", after := #[{ on := 25, ground := Ground.data }, { on := 1, ground := Ground.guard }], guard := some (1, true) }) (v := ?_) rfl (by kernel_rfl) (by kernel_rfl) (by kernel_rfl) (fun _ _ _ h => h) (Or.inl ⟨by rfl, ?hyR26⟩) (by assumption) ?_
          case hyR26 => (intro w hSw; (try dsimp only at hSw); go_simp; try with_reducible rfl)
          (try simp only [Act.put, List.setIfInBounds_toArray, List.set_cons_zero, List.set_cons_succ])
          refine wpAnyH_take (i := 27) (oi := { dst := some 69, op := Op.move (Operand.tmp 0), type := 40, pos := "law.go:78", after := #[{ on := 1, ground := Ground.guard }], guard := some (1, true) }) (v := ?_) rfl (by kernel_rfl) (by kernel_rfl) (by kernel_rfl) (fun _ _ _ h => h) (Or.inl ⟨by rfl, ?hyR27⟩) (by assumption) ?_
          case hyR27 => (intro w hSw; (try dsimp only at hSw); go_simp; try with_reducible rfl)
          (try simp only [Act.put, List.setIfInBounds_toArray, List.set_cons_zero, List.set_cons_succ])
          refine wpAnyH_take (i := 28) (oi := { dst := some 70, op := Op.move (Operand.tmp 8), type := 3, pos := "law.go:78", after := #[{ on := 1, ground := Ground.guard }], guard := some (1, true) }) (v := ?_) rfl (by kernel_rfl) (by kernel_rfl) (by kernel_rfl) (fun _ _ _ h => h) (Or.inl ⟨by rfl, ?hyR28⟩) (by assumption) ?_
          case hyR28 => (intro w hSw; (try dsimp only at hSw); go_simp; try with_reducible rfl)
          (try simp only [Act.put, List.setIfInBounds_toArray, List.set_cons_zero, List.set_cons_succ])
          refine wpAnyH_take (i := 29) (oi := { dst := some 71, op := Op.indexAddr 40 (Operand.tmp 69) (Operand.tmp 70), type := 0, pos := "law.go:78", after := #[{ on := 27, ground := Ground.data }, { on := 28, ground := Ground.data }, { on := 1, ground := Ground.guard }], guard := some (1, true) }) (v := ?_) rfl (by kernel_rfl) (by kernel_rfl) (by kernel_rfl) (fun _ _ _ h => h) (Or.inl ⟨by rfl, ?hyR29⟩) (by assumption) ?_
          case hyR29 => (intro w hSw; (try dsimp only at hSw); go_simp; try with_reducible rfl)
          (try simp only [Act.put, List.setIfInBounds_toArray, List.set_cons_zero, List.set_cons_succ])
          refine wpAnyH_take (i := 30) (oi := { dst := some 72, op := Op.load 2 (Operand.tmp 71), type := 2, pos := "law.go:78", after := #[{ on := 29, ground := Ground.data }, { on := 1, ground := Ground.guard }], guard := some (1, true) }) (v := ?_) rfl (by kernel_rfl) (by kernel_rfl) (by kernel_rfl) (fun _ _ _ h => h) (Or.inl ⟨by rfl, ?hyR30⟩) (by assumption) ?_
          case hyR30 => (intro w hSw; (try dsimp only at hSw); go_simp; try with_reducible rfl)
          (try simp only [Act.put, List.setIfInBounds_toArray, List.set_cons_zero, List.set_cons_succ])
          refine wpAnyH_take (i := 31) (oi := { dst := some 73, op := Op.binOp BinOp.gtr 2 (Operand.tmp 68) (Operand.tmp 72) 2, type := 4, pos := "law.go:78", after := #[{ on := 26, ground := Ground.data }, { on := 30, ground := Ground.data }, { on := 1, ground := Ground.guard }], guard := some (1, true) }) (v := ?_) rfl (by kernel_rfl) (by kernel_rfl) (by kernel_rfl) (fun _ _ _ h => h) (Or.inl ⟨by rfl, ?hyR31⟩) (by assumption) ?_
          case hyR31 => (intro w hSw; (try dsimp only at hSw); go_simp; try with_reducible rfl)
          (try simp only [Act.put, List.setIfInBounds_toArray, List.set_cons_zero, List.set_cons_succ])
          refine wpAnyH_take (i := 32) (oi := { dst := some 74, op := Op.move (Operand.tmp 0), type := 40, pos := "law.go:78", after := #[{ on := 1, ground := Ground.guard }], guard := some (1, true) }) (v := ?_) rfl (by kernel_rfl) (by kernel_rfl) (by kernel_rfl) (fun _ _ _ h => h) (Or.inl ⟨by rfl, ?hyR32⟩) (by assumption) ?_
          case hyR32 => (intro w hSw; (try dsimp only at hSw); go_simp; try with_reducible rfl)
          (try simp only [Act.put, List.setIfInBounds_toArray, List.set_cons_zero, List.set_cons_succ])
          refine wpAnyH_take (i := 33) (oi := { dst := some 75, op := Op.move (Operand.tmp 8), type := 3, pos := "law.go:78", after := #[{ on := 1, ground := Ground.guard }], guard := some (1, true) }) (v := ?_) rfl (by kernel_rfl) (by kernel_rfl) (by kernel_rfl) (fun _ _ _ h => h) (Or.inl ⟨by rfl, ?hyR33⟩) (by assumption) ?_
          case hyR33 => (intro w hSw; (try dsimp only at hSw); go_simp; try with_reducible rfl)
          (try simp only [Act.put, List.setIfInBounds_toArray, List.set_cons_zero, List.set_cons_succ])
          refine wpAnyH_take (i := 34) (oi := { dst := some 76, op := Op.binOp BinOp.sub 3 (Operand.tmp 75) (Operand.const (Value.int IntKind.i64 1)) 3, type := 3, pos := "law.go:78", after := #[{ on := 33, ground := Ground.data }, { on := 1, ground := Ground.guard }], guard := some (1, true) }) (v := ?_) rfl (by kernel_rfl) (by kernel_rfl) (by kernel_rfl) (fun _ _ _ h => h) (Or.inl ⟨by rfl, ?hyR34⟩) (by assumption) ?_
          case hyR34 => (intro w hSw; (try dsimp only at hSw); go_simp; try with_reducible rfl)
          (try simp only [Act.put, List.setIfInBounds_toArray, List.set_cons_zero, List.set_cons_succ])
          refine wpAnyH_take (i := 35) (oi := { dst := some 77, op := Op.indexAddr 40 (Operand.tmp 74) (Operand.tmp 76), type := 0, pos := "law.go:78", after := #[{ on := 32, ground := Ground.data }, { on := 34, ground := Ground.data }, { on := 1, ground := Ground.guard }], guard := some (1, true) }) (v := ?_) rfl (by kernel_rfl) (by kernel_rfl) (by kernel_rfl) (fun _ _ _ h => h) (Or.inl ⟨by rfl, ?hyR35⟩) (by assumption) ?_
          case hyR35 => (intro w hSw; (try dsimp only at hSw); go_simp; try with_reducible rfl)
          (try simp only [Act.put, List.setIfInBounds_toArray, List.set_cons_zero, List.set_cons_succ])
          refine wpAnyH_take (i := 36) (oi := { dst := some 78, op := Op.load 2 (Operand.tmp 77), type := 2, pos := "law.go:78", after := #[{ on := 35, ground := Ground.data }, { on := 1, ground := Ground.guard }], guard := some (1, true) }) (v := ?_) rfl (by kernel_rfl) (by kernel_rfl) (by kernel_rfl) (fun _ _ _ h => h) (Or.inl ⟨by rfl, ?hyR36⟩) (by assumption) ?_
          case hyR36 => (intro w hSw; (try dsimp only at hSw); go_simp; try with_reducible rfl)
          (try simp only [Act.put, List.setIfInBounds_toArray, List.set_cons_zero, List.set_cons_succ])
          refine wpAnyH_take (i := 37) (oi := { dst := some 79, op := Op.move (Operand.tmp 0), type := 40, pos := "law.go:78", after := #[{ on := 1, ground := Ground.guard }], guard := some (1, true) }) (v := ?_) rfl (by kernel_rfl) (by kernel_rfl) (by kernel_rfl) (fun _ _ _ h => h) (Or.inl ⟨by rfl, ?hyR37⟩) (by assumption) ?_
          case hyR37 => (intro w hSw; (try dsimp only at hSw); go_simp; try with_reducible rfl)
          (try simp only [Act.put, List.setIfInBounds_toArray, List.set_cons_zero, List.set_cons_succ])
          refine wpAnyH_take (i := 38) (oi := { dst := some 80, op := Op.move (Operand.tmp 8), type := 3, pos := "law.go:78", after := #[{ on := 1, ground := Ground.guard }], guard := some (1, true) }) (v := ?_) rfl (by kernel_rfl) (by kernel_rfl) (by kernel_rfl) (fun _ _ _ h => h) (Or.inl ⟨by rfl, ?hyR38⟩) (by assumption) ?_
          case hyR38 => (intro w hSw; (try dsimp only at hSw); go_simp; try with_reducible rfl)
          (try simp only [Act.put, List.setIfInBounds_toArray, List.set_cons_zero, List.set_cons_succ])
          refine wpAnyH_take (i := 39) (oi := { dst := some 81, op := Op.indexAddr 40 (Operand.tmp 79) (Operand.tmp 80), type := 0, pos := "law.go:78", after := #[{ on := 37, ground := Ground.data }, { on := 38, ground := Ground.data }, { on := 1, ground := Ground.guard }], guard := some (1, true) }) (v := ?_) rfl (by kernel_rfl) (by kernel_rfl) (by kernel_rfl) (fun _ _ _ h => h) (Or.inl ⟨by rfl, ?hyR39⟩) (by assumption) ?_
          case hyR39 => (intro w hSw; (try dsimp only at hSw); go_simp; try with_reducible rfl)
          (try simp only [Act.put, List.setIfInBounds_toArray, List.set_cons_zero, List.set_cons_succ])
          refine wpAnyH_take (i := 40) (oi := { dst := some 82, op := Op.load 2 (Operand.tmp 81), type := 2, pos := "law.go:78", after := #[{ on := 39, ground := Ground.data }, { on := 1, ground := Ground.guard }], guard := some (1, true) }) (v := ?_) rfl (by kernel_rfl) (by kernel_rfl) (by kernel_rfl) (fun _ _ _ h => h) (Or.inl ⟨by rfl, ?hyR40⟩) (by assumption) ?_
          case hyR40 => (intro w hSw; (try dsimp only at hSw); go_simp; try with_reducible rfl)
          (try simp only [Act.put, List.setIfInBounds_toArray, List.set_cons_zero, List.set_cons_succ])
          refine wpAnyH_take (i := 41) (oi := { dst := some 83, op := Op.binOp BinOp.geq 2 (Operand.tmp 78) (Operand.tmp 82) 2, type := 4, pos := "law.go:78", after := #[{ on := 36, ground := Ground.data }, { on := 40, ground := Ground.data }, { on := 1, ground := Ground.guard }], guard := some (1, true) }) (v := ?_) rfl (by kernel_rfl) (by kernel_rfl) (by kernel_rfl) (fun _ _ _ h => h) (Or.inl ⟨by rfl, ?hyR41⟩) (by assumption) ?_
          case hyR41 => (intro w hSw; (try dsimp only at hSw); go_simp; try with_reducible rfl)
          (try simp only [Act.put, List.setIfInBounds_toArray, List.set_cons_zero, List.set_cons_succ])
          refine wpAnyH_take (i := 43) (oi := { dst := some 85, op := Op.move (Operand.tmp 1), type := 5, pos := "law.go:78", after := #[{ on := 1, ground := Ground.guard }], guard := some (1, true) }) (v := ?_) rfl (by kernel_rfl) (by kernel_rfl) (by kernel_rfl) (fun _ _ _ h => h) (Or.inl ⟨by rfl, ?hyR43⟩) (by assumption) ?_
          case hyR43 => (intro w hSw; (try dsimp only at hSw); go_simp; try with_reducible rfl)
          (try simp only [Act.put, List.setIfInBounds_toArray, List.set_cons_zero, List.set_cons_succ])
          refine wpAnyH_take (i := 44) (oi := { dst := some 86, op := Op.binOp BinOp.and 5 (Operand.tmp 85) (Operand.const (Value.int IntKind.u8 3)) 5, type := 5, pos := "law.go:78", after := #[{ on := 43, ground := Ground.data }, { on := 1, ground := Ground.guard }], guard := some (1, true) }) (v := ?_) rfl (by kernel_rfl) (by kernel_rfl) (by kernel_rfl) (fun _ _ _ h => h) (Or.inl ⟨by rfl, ?hyR44⟩) (by assumption) ?_
          case hyR44 => (intro w hSw; (try dsimp only at hSw); go_simp; try with_reducible rfl)
          (try simp only [Act.put, List.setIfInBounds_toArray, List.set_cons_zero, List.set_cons_succ])
          refine wpAnyH_ready (rs := [42]) (by kernel_rfl) (by simp) ?_
          refine AllReadyH.cons (o := { dst := some 84, op := Op.buildSlice 42 4 #[(0, Operand.tmp 53), (1, Operand.tmp 63), (2, Operand.tmp 73), (3, Operand.tmp 83)], type := 42, pos := "law.go:78", after := #[{ on := 11, ground := Ground.data }, { on := 21, ground := Ground.data }, { on := 31, ground := Ground.data }, { on := 41, ground := Ground.data }, { on := 1, ground := Ground.guard }], guard := some (1, true) }) rfl (fun K hK => ?_) AllReadyH.nil
          go_simp
          refine hK.out _ _ ?_ (fun hHeldRm => ?_)
          · obtain ⟨q0, q1, q2, q3⟩ := hHeldR; exact ⟨alloc_cell q0, alloc_cell q1, below_alloc q2 q3, le_alloc q3⟩
          clear hK K hHeldR
          (try simp only [Act.put, List.setIfInBounds_toArray, List.set_cons_zero, List.set_cons_succ])
          refine wpAnyH_take (i := 45) (oi := { dst := some 87, op := Op.indexAddr 42 (Operand.tmp 84) (Operand.tmp 86), type := 0, pos := "law.go:78", after := #[{ on := 42, ground := Ground.data }, { on := 44, ground := Ground.data }, { on := 1, ground := Ground.guard }], guard := some (1, true) }) (v := ?_) rfl (by kernel_rfl) (by kernel_rfl) (by kernel_rfl) (fun _ _ _ h => h) (Or.inl ⟨by rfl, ?hyR45⟩) (by assumption) ?_
          case hyR45 => (intro w hSw; (try dsimp only at hSw); go_simp; try with_reducible rfl)
          (try simp only [Act.put, List.setIfInBounds_toArray, List.set_cons_zero, List.set_cons_succ])
          refine wpAnyH_ready (rs := [46]) (by kernel_rfl) (by simp) ?_
          refine AllReadyH.cons (o := { dst := some 88, op := Op.load 4 (Operand.tmp 87), type := 4, pos := "law.go:78", after := #[{ on := 45, ground := Ground.data }, { on := 1, ground := Ground.guard }], guard := some (1, true) }) rfl (fun K hK => ?_) AllReadyH.nil
          go_simp
          refine hK.out _ _ ?_ (fun hHeldRmm => ?_)
          · exact hHeldRm
          clear hK K hHeldRm
          (try simp only [Act.put, List.setIfInBounds_toArray, List.set_cons_zero, List.set_cons_succ])
          refine wpAnyH_take (i := 47) (oi := { dst := some 89, op := Op.pick (Operand.tmp 43) (Operand.tmp 88) (Operand.const (Value.bool false)), type := 4, pos := "law.go:78", after := #[{ on := 1, ground := Ground.data }, { on := 46, ground := Ground.data }], guard := none }) (v := ?_) rfl (by kernel_rfl) (by kernel_rfl) (by kernel_rfl) (fun _ _ _ h => h) (Or.inl ⟨by rfl, ?hyR47⟩) (by assumption) ?_
          case hyR47 => (intro w hSw; (try dsimp only at hSw); go_simp; try with_reducible rfl)
          (try simp only [Act.put, List.setIfInBounds_toArray, List.set_cons_zero, List.set_cons_succ])
          refine wpAnyH_take (i := 48) (oi := { dst := some 7, op := Op.assign (Operand.tmp 89), type := 4, pos := "law.go:78", after := #[{ on := 47, ground := Ground.data }, { on := 1, ground := Ground.chain }, { on := 0, ground := Ground.phase }, { on := 1, ground := Ground.phase }, { on := 2, ground := Ground.phase }, { on := 3, ground := Ground.phase }, { on := 4, ground := Ground.phase }, { on := 5, ground := Ground.phase }, { on := 6, ground := Ground.phase }, { on := 7, ground := Ground.phase }, { on := 8, ground := Ground.phase }, { on := 9, ground := Ground.phase }, { on := 10, ground := Ground.phase }, { on := 11, ground := Ground.phase }, { on := 12, ground := Ground.phase }, { on := 13, ground := Ground.phase }, { on := 14, ground := Ground.phase }, { on := 15, ground := Ground.phase }, { on := 16, ground := Ground.phase }, { on := 17, ground := Ground.phase }, { on := 18, ground := Ground.phase }, { on := 19, ground := Ground.phase }, { on := 20, ground := Ground.phase }, { on := 21, ground := Ground.phase }, { on := 22, ground := Ground.phase }, { on := 23, ground := Ground.phase }, { on := 24, ground := Ground.phase }, { on := 25, ground := Ground.phase }, { on := 26, ground := Ground.phase }, { on := 27, ground := Ground.phase }, { on := 28, ground := Ground.phase }, { on := 29, ground := Ground.phase }, { on := 30, ground := Ground.phase }, { on := 31, ground := Ground.phase }, { on := 32, ground := Ground.phase }, { on := 33, ground := Ground.phase }, { on := 34, ground := Ground.phase }, { on := 35, ground := Ground.phase }, { on := 36, ground := Ground.phase }, { on := 37, ground := Ground.phase }, { on := 38, ground := Ground.phase }, { on := 39, ground := Ground.phase }, { on := 40, ground := Ground.phase }, { on := 41, ground := Ground.phase }, { on := 42, ground := Ground.phase }, { on := 43, ground := Ground.phase }, { on := 44, ground := Ground.phase }, { on := 45, ground := Ground.phase }, { on := 46, ground := Ground.phase }, { on := 47, ground := Ground.phase }], guard := none }) (v := ?_) rfl (by kernel_rfl) (by kernel_rfl) (by kernel_rfl) (fun _ _ _ h => h) (Or.inl ⟨by rfl, ?hyR48⟩) (by assumption) ?_
          case hyR48 => (intro w hSw; (try dsimp only at hSw); go_simp; try with_reducible rfl)
          (try simp only [Act.put, List.setIfInBounds_toArray, List.set_cons_zero, List.set_cons_succ])
          refine wpAnyH_done (by kernel_rfl) ?_ _
          obtain ⟨_, _, hbl, _⟩ := hHeldRmm
          go_wp2
          go_roundw
          case rel => exact ⟨m + 2, _, by omega, by go_num, rfl, bown_next HO4.out hbl, next_trans' HB4.out hbl, HQ2⟩
          case measure => simp [intOf]; omega
    · have hki : ¬ (n : Int) < (N : Int) := by omega
      have hnN : n = N := by omega
      subst hnN
      have HO2 := HO.out
      have HQ2 := HQ.out
      rw [List.take_of_length_le (by rw [HN.out]; exact Nat.le_refl _)] at HO2 HQ2
      obtain ⟨g, cap2, rfl, _, HI, _, _⟩ := own_block (by rw [valsOf_len]; exact HN.out) (by omega) HO2
      have HI2 : Hid (IsVals wr (some ⟨g, 0, none⟩) (valsOf l)) := HI
      have HAq : Hid (applyR (code ⟨#[62]⟩) (valsOf l) = (⟨2, 0, boolS q⟩, 0)) := by rw [Hid, HAp.out, HQ2]
      have HTr : Hid (TabW wr) := tab_next HT.out HWr.out
      have HLn : Hid ((valsOf l).length = n) := by rw [Hid, valsOf_len]; exact HN.out
      have HRr : Hid (∀ u ∈ valsOf l, rightV u) := rights_of HL.out
      clear HO HO2 HQ HQ2 HI HAp
      go_wp2_with fail
      refine (apply_any ⟨#[62]⟩ 2 0 0 (boolS q) _ cap2 n _ _ HLn.out (by omega) HI2.out HRr.out HTr.out HAq.out).mono ?_
      rintro e w5 ⟨rfl, hb5⟩
      obtain ⟨x1, Hx1⟩ : ∃ x1, w5.heap.size = x1 := ⟨_, rfl⟩
      obtain ⟨W, HWe⟩ : ∃ W, W = w5.alloc (.cells #[.int .i64 2, .int .i64 0, .string (boolS q)] 26) := ⟨_, rfl⟩
      have g0 : W.drew.cell? ⟨x1, 0, none⟩ = some (.int .i64 2) := by rw [HWe]; exact box_cell Hx1.symm rfl
      have g1 : W.drew.cell? ⟨x1, 1, none⟩ = some (.int .i64 0) := by rw [HWe]; exact box_cell Hx1.symm rfl
      have g2 : W.drew.cell? ⟨x1, 2, none⟩ = some (.string (boolS q)) := by rw [HWe]; exact box_cell Hx1.symm rfl
      have s0 : Below w.heap.size w W.drew := by rw [HWe]; exact (next_trans' (next_trans' HWr.out hb5) (alloc_below' _ _)).drew
      have s1 : w.heap.size ≤ W.drew.heap.size := s0.size
      clear hb5 HI2 HTr HWr HV HL HT HRr HLn HAq
      go_wp2_with fail
      rw [← HWe]
      clear HWe
      refine wp_region_held_drew (S := (fun w' => w'.cell? ⟨x1, 0, none⟩ = some (.int .i64 2) ∧ w'.cell? ⟨x1, 1, none⟩ = some (.int .i64 0) ∧ w'.cell? ⟨x1, 2, none⟩ = some (.string (boolS q)) ∧ Below w.heap.size w w' ∧ w.heap.size ≤ w'.heap.size)) (by kernel_rfl) ?_ (fun hHeldA => ?_)
      · exact ⟨g0, g1, g2, s0, s1⟩
      refine wpAnyH_take (i := 0) (oi := { dst := some 96, op := Op.move (Operand.tmp 10), type := 27, pos := "law.go:82", after := #[], guard := none }) (v := ?_) rfl (by kernel_rfl) (by kernel_rfl) (by kernel_rfl) (fun _ _ _ h => h) (Or.inl ⟨by rfl, ?hyA0⟩) (by assumption) ?_
      case hyA0 => (intro w hSw; (try dsimp only at hSw); go_simp; try with_reducible rfl)
      (try simp only [Act.put, List.setIfInBounds_toArray, List.set_cons_zero, List.set_cons_succ])
      refine wpAnyH_take (i := 1) (oi := { dst := some 97, op := Op.binOp BinOp.eql 3 (Operand.tmp 96) (Operand.const (Value.int IntKind.i64 0)) 3, type := 4, pos := "law.go:82", after := #[{ on := 0, ground := Ground.data }], guard := none }) (v := ?_) rfl (by kernel_rfl) (by kernel_rfl) (by kernel_rfl) (fun _ _ _ h => h) (Or.inl ⟨by rfl, ?hyA1⟩) (by assumption) ?_
      case hyA1 => (intro w hSw; (try dsimp only at hSw); go_simp; try with_reducible rfl)
      (try simp only [Act.put, List.setIfInBounds_toArray, List.set_cons_zero, List.set_cons_succ])
      refine wpAnyH_take (i := 2) (oi := { dst := some 98, op := Op.move (Operand.tmp 97), type := 4, pos := "law.go:82", after := #[{ on := 1, ground := Ground.data }], guard := none }) (v := ?_) rfl (by kernel_rfl) (by kernel_rfl) (by kernel_rfl) (fun _ _ _ h => h) (Or.inl ⟨by rfl, ?hyA2⟩) (by assumption) ?_
      case hyA2 => (intro w hSw; (try dsimp only at hSw); go_simp; try with_reducible rfl)
      (try simp only [Act.put, List.setIfInBounds_toArray, List.set_cons_zero, List.set_cons_succ])
      refine wpAnyH_take (i := 3) (oi := { dst := some 99, op := Op.load 26 (Operand.tmp 9), type := 26, pos := "law.go:82", after := #[{ on := 2, ground := Ground.guard }], guard := some (2, true) }) (v := ?_) rfl (by kernel_rfl) (by kernel_rfl) (by kernel_rfl) (fun _ _ _ h => h) (Or.inl ⟨by rfl, ?hyA3⟩) (by assumption) ?_
      case hyA3 => (intro w hSw; (try dsimp only at hSw); go_simp; try with_reducible rfl)
      (try simp only [Act.put, List.setIfInBounds_toArray, List.set_cons_zero, List.set_cons_succ])
      refine wpAnyH_take (i := 4) (oi := { dst := some 100, op := Op.move (Operand.tmp 7), type := 4, pos := "law.go:82", after := #[{ on := 2, ground := Ground.guard }], guard := some (2, true) }) (v := ?_) rfl (by kernel_rfl) (by kernel_rfl) (by kernel_rfl) (fun _ _ _ h => h) (Or.inl ⟨by rfl, ?hyA4⟩) (by assumption) ?_
      case hyA4 => (intro w hSw; (try dsimp only at hSw); go_simp; try with_reducible rfl)
      (try simp only [Act.put, List.setIfInBounds_toArray, List.set_cons_zero, List.set_cons_succ])
      refine wpAnyH_ready (rs := [5]) (by kernel_rfl) (by simp) ?_
      refine AllReadyH.cons (o := { dst := some 101, op := Op.call { callee := Callee.value (Operand.func 21), args := #[Operand.tmp 100], argTypes := #[4] }, type := 26, pos := "law.go:82", after := #[{ on := 4, ground := Ground.data }, { on := 2, ground := Ground.chain }, { on := 2, ground := Ground.guard }], guard := some (2, true) }) rfl (fun K hK => ?_) AllReadyH.nil
      go_simp
      with_reducible refine (rbool_any _ _).mono ?_
      rintro e w' ⟨rfl, hb⟩
      refine hK.out _ _ ?_ (fun hHeldAx => ?_)
      · obtain ⟨q0, q1, q2, q3, q4⟩ := hHeldA
        exact ⟨keep_cell hb q0, keep_cell hb q1, keep_cell hb q2, below_next q3 hb q4, le_next q4 hb⟩
      clear hK K hb hHeldA
      (try simp only [Act.put, List.setIfInBounds_toArray, List.set_cons_zero, List.set_cons_succ])
      refine wpAnyH_ready (rs := [6]) (by kernel_rfl) (by simp) ?_
      refine AllReadyH.cons (o := { dst := some 102, op := Op.call { callee := Callee.value (Operand.func 15), args := #[Operand.tmp 99, Operand.tmp 101], argTypes := #[26, 26] }, type := 4, pos := "law.go:82", after := #[{ on := 3, ground := Ground.data }, { on := 5, ground := Ground.data }, { on := 5, ground := Ground.chain }, { on := 2, ground := Ground.guard }], guard := some (2, true) }) rfl (fun K hK => ?_) AllReadyH.nil
      go_simp
      with_reducible refine (HRf.out _ _ _ _).mono ?_
      rintro e w' ⟨rfl, hb⟩
      refine hK.out _ _ ?_ (fun hHeldAxx => ?_)
      · obtain ⟨q0, q1, q2, q3, q4⟩ := hHeldAx
        exact ⟨keep_cell hb q0, keep_cell hb q1, keep_cell hb q2, below_next q3 hb q4, le_next q4 hb⟩
      clear hK K hb hHeldAx
      (try simp only [Act.put, List.setIfInBounds_toArray, List.set_cons_zero, List.set_cons_succ])
      refine wpAnyH_take (i := 7) (oi := { dst := some 103, op := Op.pick (Operand.tmp 98) (Operand.tmp 102) (Operand.const (Value.bool false)), type := 4, pos := "law.go:82", after := #[{ on := 2, ground := Ground.data }, { on := 6, ground := Ground.data }], guard := none }) (v := ?_) rfl (by kernel_rfl) (by kernel_rfl) (by kernel_rfl) (fun _ _ _ h => h) (Or.inl ⟨by rfl, ?hyA7⟩) (by assumption) ?_
      case hyA7 => (intro w hSw; (try dsimp only at hSw); go_simp; try with_reducible rfl)
      (try simp only [Act.put, List.setIfInBounds_toArray, List.set_cons_zero, List.set_cons_succ])
      refine wpAnyH_take (i := 8) (oi := { dst := some 4, op := Op.assign (Operand.tmp 103), type := 4, pos := "law.go:82", after := #[{ on := 7, ground := Ground.data }, { on := 6, ground := Ground.chain }, { on := 0, ground := Ground.phase }, { on := 1, ground := Ground.phase }, { on := 2, ground := Ground.phase }, { on := 3, ground := Ground.phase }, { on := 4, ground := Ground.phase }, { on := 5, ground := Ground.phase }, { on := 6, ground := Ground.phase }, { on := 7, ground := Ground.phase }], guard := none }) (v := ?_) rfl (by kernel_rfl) (by kernel_rfl) (by kernel_rfl) (fun _ _ _ h => h) (Or.inl ⟨by rfl, ?hyA8⟩) (by assumption) ?_
      case hyA8 => (intro w hSw; (try dsimp only at hSw); go_simp; try with_reducible rfl)
      (try simp only [Act.put, List.setIfInBounds_toArray, List.set_cons_zero, List.set_cons_succ])
      refine wpAnyH_done (by kernel_rfl) ?_ _
      obtain ⟨_, _, _, hbl, _⟩ := hHeldAxx
      go_wp2
      go_ret
      exact ⟨rfl, hbl⟩

set_option maxHeartbeats 8000000 in
set_option maxRecDepth 100000 in
theorem chains_3 (ao : Option Addr) (N cap : Nat) (l : List Int) (a : Int) (w : World) (hwh : bits BinOp.and IntKind.u8 a 3 = 3) (h1 : 2 ≤ N) (h2 : N ≤ 30) (hN : l.length = N) (hv : IntsW w ao l) (hl : ∀ z ∈ l, inB z = true) (ht : TabW w) :
    Calls Tryd.prog 5 #[.slice ao N cap, .int .u8 a] w fun e w' => e = .returned (.bool true) ∧ Below w.heap.size w w' := by
  obtain ⟨i0, hi, hz0, hz1, hz2⟩ := infoVal'
  have HT : Hid (TabW w) := ht
  have HV : Hid (IntsW w ao l) := hv
  have HL : Hid (∀ z ∈ l, inB z = true) := hl
  have HN : Hid (l.length = N) := hN
  have h1' : ¬ (N : Int) < 2 := by omega
  have h2' : ¬ (30 : Int) < (N : Int) := by omega
  have HRf : Hid (∀ (k i : Int) (s : ByteArray) (w : World), Calls Tryd.prog 15 #[.agg #[.int .i64 (k), .int .i64 (i), .string (s)], .agg #[.int .i64 (k), .int .i64 (i), .string (s)]] w fun e w' => e = .returned (.bool true) ∧ Below w.heap.size w w') := by
    intro k i s w; rw [← sameB_refl k i s]; exact rsame_any k i k i s s w
  have HAp : Hid (applyR (code ⟨#[62, 61]⟩) (valsOf l) = (⟨2, 0, boolS (chainB 8 l)⟩, 0)) := ch_apply (c := 8) (by decide) (by decide) (fun L => rfl) (by decide) (by decide) (by decide) (by rw [HN.out]; exact h1)
  clear ht hv hl hN
  go_enter Tryd.func5, Tryd.ntmps5
  go_wp2_with fail
  refine (known6 _ HT.out).mono ?_
  rintro e w1 ⟨rfl, hb1⟩
  have b1 : Hid (Below w.heap.size w (w1.alloc (.cells #[.string ⟨#[60]⟩, .string ⟨#[60, 61]⟩, .string ⟨#[62]⟩, .string ⟨#[62, 61]⟩] 9))) := next_trans' hb1 (alloc_below' _ _)
  clear hb1
  go_wp2
  go_loopw [6, 7, 8] (fun x p y wr => ∃ (n : Nat) (q : Bool), n ≤ N ∧ y = .int .i64 n ∧ p = .bool q ∧ Hid (wr.ownsRow w.heap.size 26 3 x n (valsC (valsOf (l.take n)))) ∧ Hid (Below w.heap.size w wr) ∧ Hid (chainB 8 (l.take n) = q)) (fun _ _ y _ => N - (intOf y).toNat)
  case atStart => exact ⟨0, true, Nat.zero_le _, rfl, rfl, World.ownsRow_nil _ _ _ _, b1, rfl⟩
  case round =>
    obtain ⟨n, q, hn, rfl, rfl, HO, HWr, HQ⟩ := hrel
    clear b1
    by_cases hlt : n < N
    · have hki : (n : Int) < (N : Int) := by omega
      obtain ⟨z, HG⟩ : ∃ z, Hid (l[n]? = some z) := ⟨_, List.getElem?_eq_getElem (by rw [HN.out]; exact hlt)⟩
      obtain ⟨b, o, rfl, cz⟩ := (HV.out.next HWr.out) n z HG.out
      go_wp2_with fail
      refine (rint_any z _).mono ?_
      rintro e w3 ⟨rfl, hb3⟩
      have HB3 : Hid (Below w.heap.size w w3) := next_trans' HWr.out hb3
      have HO3 : Hid (w3.ownsRow w.heap.size 26 3 u6 n (valsC (valsOf (l.take n)))) := bown_next HO.out hb3
      clear hb3 HO cz
      go_wp2_with (at_builtin; refine wpList_append_own _ rfl _ _ 22 rfl w.heap.size 26 i0 (.agg #[.int .i64 (0), .int .i64 (0), .string (⟨#[]⟩)]) 3 32 Tryd.underlying22 hi hz0 hz1 hz2 rfl (by decide) _ _ _ rfl (HO3.out.alloc _) ⟨w3.heap.size, 0, none⟩ 1 1 [.int .i64 1, .int .i64 z, .string ⟨#[]⟩] rfl rfl ?c1 ?c2 ?c3 ?c4 ?c5 ?_)
      case c1 =>
        intro j u hj
        match j, hj with
        | 0, hj => simp at hj; subst hj; simp [Addr.add]
        | 1, hj => simp at hj; subst hj; simp [Addr.add]
        | 2, hj => simp at hj; subst hj; simp [Addr.add]
      case c2 => intro u hu; simp at hu; rcases hu with rfl | rfl | rfl <;> rfl
      case c3 => unfold maxLen; omega
      case c4 => omega
      case c5 => have := HB3.out.size; simp; omega
      intro v' w4 ho hg _
      have HO4 : Hid (w4.ownsRow w.heap.size 26 3 v' (n + 1) (valsC (valsOf (l.take (n + 1))))) := by
        rw [Hid, valsOf_take HG.out, ← valsC_app]; exact ho
      have HB4 : Hid (Below w.heap.size w w4) := by
        have hs := HB3.out.size
        refine HB3.out.trans (((Below.refl _ w3).alloc hs _).grown hg (by simp; omega) (fun q hq => ?_))
        exact (HO3.out.lt q hq).1
      clear ho hg HO3 HB3
      by_cases hz : n = 0
      · have hz' : ¬ (0 : Int) < (n : Int) := by omega
        have HQ2 : Hid (chainB 8 (l.take (n + 1)) = q) := by
          subst hz
          rw [Hid, chain_one]
          exact HQ.out
        clear hz
        go_wp2
        go_roundw
        case rel => exact ⟨n + 1, q, by omega, by go_num, rfl, HO4, HB4, HQ2⟩
        case measure => simp [intOf]; omega
      · obtain ⟨m, rfl⟩ : ∃ m, n = m + 1 := ⟨n - 1, by omega⟩
        obtain ⟨y, HGy⟩ : ∃ y, Hid (l[m]? = some y) := ⟨_, List.getElem?_eq_getElem (by rw [HN.out]; omega)⟩
        obtain ⟨b', o', eo, cy⟩ := (HV.out.next HB4.out) m y HGy.out
        obtain ⟨rfl, rfl⟩ : b' = b ∧ o' = o := by injection eo with e; injection e with e1 e2; exact ⟨e1.symm, e2.symm⟩
        obtain ⟨b2, o2, eo2, cz⟩ := (HV.out.next HB4.out) (m + 1) z HG.out
        obtain ⟨rfl, rfl⟩ : b2 = b' ∧ o2 = o' := by injection eo2 with e; injection e with e1 e2; exact ⟨e1.symm, e2.symm⟩
        have hz' : (0 : Int) < ((m + 1 : Nat) : Int) := by omega
        have hm0 : (0 : Int) ≤ (m : Int) := by omega
        have hm1 : (m : Int) < (N : Int) := by omega
        have hm2 : (m : Int) + 1 < (N : Int) := by omega
        have hm3 : (0 : Int) ≤ (m : Int) + 1 := by omega
        have hwm : IntKind.i64.wrap (m : Int) = (m : Int) := by rw [IntKind.wrap_i64]; omega
        have HQ2 : Hid (chainB 8 (l.take (m + 2)) = (q && standB 8 y z)) := by rw [Hid, chain_take _ _ m y z HGy.out HG.out, HQ.out]
        clear eo eo2
        cases q
        · go_wp2
          go_quiet (fail)
          go_wp2
          go_roundw
          case rel => exact ⟨m + 2, false, by omega, by go_num, rfl, HO4, HB4.out.trans ((show SameW w4 (w4.drewN _) from ⟨_, rfl⟩).below _), HQ2⟩
          case measure => simp [intOf]; omega
        · go_wp2
          refine wp_region_held_drew (S := (fun w' => w'.cell? ⟨b2, o2 + m, none⟩ = some (.int .i64 y) ∧ w'.cell? ⟨b2, o2 + (m + 1), none⟩ = some (.int .i64 z) ∧ Below w4.heap.size w4 w' ∧ w4.heap.size ≤ w'.heap.size)) (by kernel_rfl) ?_ (fun hHeldR => ?_)
          · exact ⟨cy, cz, (Below.refl _ _).drew, Nat.le_refl _⟩
          refine wpAnyH_take (i := 0) (oi := { dst := some 42, op := Op.move (Operand.tmp 7), type := 4, pos := "law.go:78", after := #[], guard := none }) (v := ?_) rfl (by kernel_rfl) (by kernel_rfl) (by kernel_rfl) (fun _ _ _ h => h) (Or.inl ⟨by rfl, ?hyR0⟩) (by assumption) ?_
          case hyR0 => (intro w hSw; (try dsimp only at hSw); go_simp; try with_reducible rfl)
          (try simp only [Act.put, List.setIfInBounds_toArray, List.set_cons_zero, List.set_cons_succ])
          refine wpAnyH_take (i := 1) (oi := { dst := some 43, op := Op.move (Operand.tmp 42), type := 4, pos := "law.go:78", after := #[{ on := 0, ground := Ground.data }], guard := none }) (v := ?_) rfl (by kernel_rfl) (by kernel_rfl) (by kernel_rfl) (fun _ _ _ h => h) (Or.inl ⟨by rfl, ?hyR1⟩) (by assumption) ?_
          case hyR1 => (intro w hSw; (try dsimp only at hSw); go_simp; try with_reducible rfl)
          (try simp only [Act.put, List.setIfInBounds_toArray, List.set_cons_zero, List.set_cons_succ])
          refine wpAnyH_take (i := 2) (oi := { dst := some 44, op := Op.move (Operand.tmp 0), type := 40, pos := "law.go:78", after := #[{ on := 1, ground := Ground.guard }], guard := some (1, true) }) (v := ?_) rfl (by kernel_rfl) (by kernel_rfl) (by kernel_rfl) (fun _ _ _ h => h) (Or.inl ⟨by rfl, ?hyR2⟩) (by assumption) ?_
          case hyR2 => (intro w hSw; (try dsimp only at hSw); go_simp; try with_reducible rfl)
          (try simp only [Act.put, List.setIfInBounds_toArray, List.set_cons_zero, List.set_cons_succ])
          refine wpAnyH_take (i := 3) (oi := { dst := some 45, op := Op.move (Operand.tmp 8), type := 3, pos := "law.go:78", after := #[{ on := 1, ground := Ground.guard }], guard := some (1, true) }) (v := ?_) rfl (by kernel_rfl) (by kernel_rfl) (by kernel_rfl) (fun _ _ _ h => h) (Or.inl ⟨by rfl, ?hyR3⟩) (by assumption) ?_
          case hyR3 => (intro w hSw; (try dsimp only at hSw); go_simp; try with_reducible rfl)
          (try simp only [Act.put, List.setIfInBounds_toArray, List.set_cons_zero, List.set_cons_succ])
          refine wpAnyH_take (i := 4) (oi := { dst := some 46, op := Op.binOp BinOp.sub 3 (Operand.tmp 45) (Operand.const (Value.int IntKind.i64 1)) 3, type := 3, pos := "law.go:78", after := #[{ on := 3, ground := Ground.data }, { on := 1, ground := Ground.guard }], guard := some (1, true) }) (v := ?_) rfl (by kernel_rfl) (by kernel_rfl) (by kernel_rfl) (fun _ _ _ h => h) (Or.inl ⟨by rfl, ?hyR4⟩) (by assumption) ?_
          case hyR4 => (intro w hSw; (try dsimp only at hSw); go_simp; try with_reducible rfl)
          (try simp only [Act.put, List.setIfInBounds_toArray, List.set_cons_zero, List.set_cons_succ])
          refine wpAnyH_take (i := 5) (oi := { dst := some 47, op := Op.indexAddr 40 (Operand.tmp 44) (Operand.tmp 46), type := 0, pos := "law.go:78", after := #[{ on := 2, ground := Ground.data }, { on := 4, ground := Ground.data }, { on := 1, ground := Ground.guard }], guard := some (1, true) }) (v := ?_) rfl (by kernel_rfl) (by kernel_rfl) (by kernel_rfl) (fun _ _ _ h => h) (Or.inl ⟨by rfl, ?hyR5⟩) (by assumption) ?_
          case hyR5 => (intro w hSw; (try dsimp only at hSw); go_simp; try with_reducible rfl)
          (try simp only [Act.put, List.setIfInBounds_toArray, List.set_cons_zero, List.set_cons_succ])
          refine wpAnyH_take (i := 6) (oi := { dst := some 48, op := Op.load 2 (Operand.tmp 47), type := 2, pos := "law.go:78", after := #[{ on := 5, ground := Ground.data }, { on := 1, ground := Ground.guard }], guard := some (1, true) }) (v := ?_) rfl (by kernel_rfl) (by kernel_rfl) (by kernel_rfl) (fun _ _ _ h => h) (Or.inl ⟨by rfl, ?hyR6⟩) (by assumption) ?_
          case hyR6 => (intro w hSw; (try dsimp only at hSw); go_simp; try with_reducible rfl)
          (try simp only [Act.put, List.setIfInBounds_toArray, List.set_cons_zero, List.set_cons_succ])
          refine wpAnyH_take (i := 7) (oi := { dst := some 49, op := Op.move (Operand.tmp 0), type := 40, pos := "law.go:78", after := #[{ on := 1, ground := Ground.guard }], guard := some (1, true) }) (v := ?_) rfl (by kernel_rfl) (by kernel_rfl) (by kernel_rfl) (fun _ _ _ h => h) (Or.inl ⟨by rfl, ?hyR7⟩) (by assumption) ?_
          case hyR7 => (intro w hSw; (try dsimp only at hSw); go_simp; try with_reducible rfl)
          (try simp only [Act.put, List.setIfInBounds_toArray, List.set_cons_zero, List.set_cons_succ])
          refine wpAnyH_take (i := 8) (oi := { dst := some 50, op := Op.move (Operand.tmp 8), type := 3, pos := "law.go:78", after := #[{ on := 1, ground := Ground.guard }], guard := some (1, true) }) (v := ?_) rfl (by kernel_rfl) (by kernel_rfl) (by kernel_rfl) (fun _ _ _ h => h) (Or.inl ⟨by rfl, ?hyR8⟩) (by assumption) ?_
          case hyR8 => (intro w hSw; (try dsimp only at hSw); go_simp; try with_reducible rfl)
          (try simp only [Act.put, List.setIfInBounds_toArray, List.set_cons_zero, List.set_cons_succ])
          refine wpAnyH_take (i := 9) (oi := { dst := some 51, op := Op.indexAddr 40 (Operand.tmp 49) (Operand.tmp 50), type := 0, pos := "law.go:78", after := #[{ on := 7, ground := Ground.data }, { on := 8, ground := Ground.data }, { on := 1, ground := Ground.guard }], guard := some (1, true) }) (v := ?_) rfl (by kernel_rfl) (by kernel_rfl) (by kernel_rfl) (fun _ _ _ h => h) (Or.inl ⟨by rfl, ?hyR9⟩) (by assumption) ?_
          case hyR9 => (intro w hSw; (try dsimp only at hSw); go_simp; try with_reducible rfl)
          (try simp only [Act.put, List.setIfInBounds_toArray, List.set_cons_zero, List.set_cons_succ])
          refine wpAnyH_take (i := 10) (oi := { dst := some 52, op := Op.load 2 (Operand.tmp 51), type := 2, pos := "law.go:78", after := #[{ on := 9, ground := Ground.data }, { on := 1, ground := Ground.guard }], guard := some (1, true) }) (v := ?_) rfl (by kernel_rfl) (by kernel_rfl) (by kernel_rfl) (fun _ _ _ h => h) (Or.inl ⟨by rfl, ?hyR10⟩) (by assumption) ?_
          case hyR10 => (intro w hSw; (try dsimp only at hSw); go_simp; try with_reducible rfl)
          (try simp only [Act.put, List.setIfInBounds_toArray, List.set_cons_zero, List.set_cons_succ])
          refine wpAnyH_take (i := 11) (oi := { dst := some 53, op := Op.binOp BinOp.lss 2 (Operand.tmp 48) (Operand.tmp 52) 2, type := 4, pos := "law.go:78", after := #[{ on := 6, ground := Ground.data }, { on := 10, ground := Ground.data }, { on := 1, ground := Ground.guard }], guard := some (1, true) }) (v := ?_) rfl (by kernel_rfl) (by kernel_rfl) (by kernel_rfl) (fun _ _ _ h => h) (Or.inl ⟨by rfl, ?hyR11⟩) (by assumption) ?_
          case hyR11 => (intro w hSw; (try dsimp only at hSw); go_simp; try with_reducible rfl)
          (try simp only [Act.put, List.setIfInBounds_toArray, List.set_cons_zero, List.set_cons_succ])
          refine wpAnyH_take (i := 12) (oi := { dst := some 54, op := Op.move (Operand.tmp 0), type := 40, pos := "law.go:78", after := #[{ on := 1, ground := Ground.guard }], guard := some (1, true) }) (v := ?_) rfl (by kernel_rfl) (by kernel_rfl) (by kernel_rfl) (fun _ _ _ h => h) (Or.inl ⟨by rfl, ?hyR12⟩) (by assumption) ?_
          case hyR12 => (intro w hSw; (try dsimp only at hSw); go_simp; try with_reducible rfl)
          (try simp only [Act.put, List.setIfInBounds_toArray, List.set_cons_zero, List.set_cons_succ])
          refine wpAnyH_take (i := 13) (oi := { dst := some 55, op := Op.move (Operand.tmp 8), type := 3, pos := "law.go:78", after := #[{ on := 1, ground := Ground.guard }], guard := some (1, true) }) (v := ?_) rfl (by kernel_rfl) (by kernel_rfl) (by kernel_rfl) (fun _ _ _ h => h) (Or.inl ⟨by rfl, ?hyR13⟩) (by assumption) ?_
          case hyR13 => (intro w hSw; (try dsimp only at hSw); go_simp; try with_reducible rfl)
          (try simp only [Act.put, List.setIfInBounds_toArray, List.set_cons_zero, List.set_cons_succ])
          refine wpAnyH_take (i := 14) (oi := { dst := some 56, op := Op.binOp BinOp.sub 3 (Operand.tmp 55) (Operand.const (Value.int IntKind.i64 1)) 3, type := 3, pos := "law.go:78", after := #[{ on := 13, ground := Ground.data }, { on := 1, ground := Ground.guard }], guard := some (1, true) }) (v := ?_) rfl (by kernel_rfl) (by kernel_rfl) (by kernel_rfl) (fun _ _ _ h => h) (Or.inl ⟨by rfl, ?hyR14⟩) (by assumption) ?_
          case hyR14 => (intro w hSw; (try dsimp only at hSw); go_simp; try with_reducible rfl)
          (try simp only [Act.put, List.setIfInBounds_toArray, List.set_cons_zero, List.set_cons_succ])
          refine wpAnyH_take (i := 15) (oi := { dst := some 57, op := Op.indexAddr 40 (Operand.tmp 54) (Operand.tmp 56), type := 0, pos := "law.go:78", after := #[{ on := 12, ground := Ground.data }, { on := 14, ground := Ground.data }, { on := 1, ground := Ground.guard }], guard := some (1, true) }) (v := ?_) rfl (by kernel_rfl) (by kernel_rfl) (by kernel_rfl) (fun _ _ _ h => h) (Or.inl ⟨by rfl, ?hyR15⟩) (by assumption) ?_
          case hyR15 => (intro w hSw; (try dsimp only at hSw); go_simp; try with_reducible rfl)
          (try simp only [Act.put, List.setIfInBounds_toArray, List.set_cons_zero, List.set_cons_succ])
          refine wpAnyH_take (i := 16) (oi := { dst := some 58, op := Op.load 2 (Operand.tmp 57), type := 2, pos := "law.go:78", after := #[{ on := 15, ground := Ground.data }, { on := 1, ground := Ground.guard }], guard := some (1, true) }) (v := ?_) rfl (by kernel_rfl) (by kernel_rfl) (by kernel_rfl) (fun _ _ _ h => h) (Or.inl ⟨by rfl, ?hyR16⟩) (by assumption) ?_
          case hyR16 => (intro w hSw; (try dsimp only at hSw); go_simp; try with_reducible rfl)
          (try simp only [Act.put, List.setIfInBounds_toArray, List.set_cons_zero, List.set_cons_succ])
          refine wpAnyH_take (i := 17) (oi := { dst := some 59, op := Op.move (Operand.tmp 0), type := 40, pos := "law.go:78", after := #[{ on := 1, ground := Ground.guard }], guard := some (1, true) }) (v := ?_) rfl (by kernel_rfl) (by kernel_rfl) (by kernel_rfl) (fun _ _ _ h => h) (Or.inl ⟨by rfl, ?hyR17⟩) (by assumption) ?_
          case hyR17 => (intro w hSw; (try dsimp only at hSw); go_simp; try with_reducible rfl)
          (try simp only [Act.put, List.setIfInBounds_toArray, List.set_cons_zero, List.set_cons_succ])
          refine wpAnyH_take (i := 18) (oi := { dst := some 60, op := Op.move (Operand.tmp 8), type := 3, pos := "law.go:78", after := #[{ on := 1, ground := Ground.guard }], guard := some (1, true) }) (v := ?_) rfl (by kernel_rfl) (by kernel_rfl) (by kernel_rfl) (fun _ _ _ h => h) (Or.inl ⟨by rfl, ?hyR18⟩) (by assumption) ?_
          case hyR18 => (intro w hSw; (try dsimp only at hSw); go_simp; try with_reducible rfl)
          (try simp only [Act.put, List.setIfInBounds_toArray, List.set_cons_zero, List.set_cons_succ])
          refine wpAnyH_take (i := 19) (oi := { dst := some 61, op := Op.indexAddr 40 (Operand.tmp 59) (Operand.tmp 60), type := 0, pos := "law.go:78", after := #[{ on := 17, ground := Ground.data }, { on := 18, ground := Ground.data }, { on := 1, ground := Ground.guard }], guard := some (1, true) }) (v := ?_) rfl (by kernel_rfl) (by kernel_rfl) (by kernel_rfl) (fun _ _ _ h => h) (Or.inl ⟨by rfl, ?hyR19⟩) (by assumption) ?_
          case hyR19 => (intro w hSw; (try dsimp only at hSw); go_simp; try with_reducible rfl)
          (try simp only [Act.put, List.setIfInBounds_toArray, List.set_cons_zero, List.set_cons_succ])
          refine wpAnyH_take (i := 20) (oi := { dst := some 62, op := Op.load 2 (Operand.tmp 61), type := 2, pos := "law.go:78", after := #[{ on := 19, ground := Ground.data }, { on := 1, ground := Ground.guard }], guard := some (1, true) }) (v := ?_) rfl (by kernel_rfl) (by kernel_rfl) (by kernel_rfl) (fun _ _ _ h => h) (Or.inl ⟨by rfl, ?hyR20⟩) (by assumption) ?_
          case hyR20 => (intro w hSw; (try dsimp only at hSw); go_simp; try with_reducible rfl)
          (try simp only [Act.put, List.setIfInBounds_toArray, List.set_cons_zero, List.set_cons_succ])
          refine wpAnyH_take (i := 21) (oi := { dst := some 63, op := Op.binOp BinOp.leq 2 (Operand.tmp 58) (Operand.tmp 62) 2, type := 4, pos := "law.go:78", after := #[{ on := 16, ground := Ground.data }, { on := 20, ground := Ground.data }, { on := 1, ground := Ground.guard }], guard := some (1, true) }) (v := ?_) rfl (by kernel_rfl) (by kernel_rfl) (by kernel_rfl) (fun _ _ _ h => h) (Or.inl ⟨by rfl, ?hyR21⟩) (by assumption) ?_
          case hyR21 => (intro w hSw; (try dsimp only at hSw); go_simp; try with_reducible rfl)
          (try simp only [Act.put, List.setIfInBounds_toArray, List.set_cons_zero, List.set_cons_succ])
          refine wpAnyH_take (i := 22) (oi := { dst := some 64, op := Op.move (Operand.tmp 0), type := 40, pos := "law.go:78", after := #[{ on := 1, ground := Ground.guard }], guard := some (1, true) }) (v := ?_) rfl (by kernel_rfl) (by kernel_rfl) (by kernel_rfl) (fun _ _ _ h => h) (Or.inl ⟨by rfl, ?hyR22⟩) (by assumption) ?_
          case hyR22 => (intro w hSw; (try dsimp only at hSw); go_simp; try with_reducible rfl)
          (try simp only [Act.put, List.setIfInBounds_toArray, List.set_cons_zero, List.set_cons_succ])
          refine wpAnyH_take (i := 23) (oi := { dst := some 65, op := Op.move (Operand.tmp 8), type := 3, pos := "law.go:78", after := #[{ on := 1, ground := Ground.guard }], guard := some (1, true) }) (v := ?_) rfl (by kernel_rfl) (by kernel_rfl) (by kernel_rfl) (fun _ _ _ h => h) (Or.inl ⟨by rfl, ?hyR23⟩) (by assumption) ?_
          case hyR23 => (intro w hSw; (try dsimp only at hSw); go_simp; try with_reducible rfl)
          (try simp only [Act.put, List.setIfInBounds_toArray, List.set_cons_zero, List.set_cons_succ])
          refine wpAnyH_take (i := 24) (oi := { dst := some 66, op := Op.binOp BinOp.sub 3 (Operand.tmp 65) (Operand.const (Value.int IntKind.i64 1)) 3, type := 3, pos := "law.go:78", after := #[{ on := 23, ground := Ground.data }, { on := 1, ground := Ground.guard }], guard := some (1, true) }) (v := ?_) rfl (by kernel_rfl) (by kernel_rfl) (by kernel_rfl) (fun _ _ _ h => h) (Or.inl ⟨by rfl, ?hyR24⟩) (by assumption) ?_
          case hyR24 => (intro w hSw; (try dsimp only at hSw); go_simp; try with_reducible rfl)
          (try simp only [Act.put, List.setIfInBounds_toArray, List.set_cons_zero, List.set_cons_succ])
          refine wpAnyH_take (i := 25) (oi := { dst := some 67, op := Op.indexAddr 40 (Operand.tmp 64) (Operand.tmp 66), type := 0, pos := "law.go:78", after := #[{ on := 22, ground := Ground.data }, { on := 24, ground := Ground.data }, { on := 1, ground := Ground.guard }], guard := some (1, true) }) (v := ?_) rfl (by kernel_rfl) (by kernel_rfl) (by kernel_rfl) (fun _ _ _ h => h) (Or.inl ⟨by rfl, ?hyR25⟩) (by assumption) ?_
          case hyR25 => (intro w hSw; (try dsimp only at hSw); go_simp; try with_reducible rfl)
          (try simp only [Act.put, List.setIfInBounds_toArray, List.set_cons_zero, List.set_cons_succ])
          refine wpAnyH_take (i := 26) (oi := { dst := some 68, op := Op.load 2 (Operand.tmp 67), type := 2, pos := "law.go:78", after := #[{ on := 25, ground := Ground.data }, { on := 1, ground := Ground.guard }], guard := some (1, true) }) (v := ?_) rfl (by kernel_rfl) (by kernel_rfl) (by kernel_rfl) (fun _ _ _ h => h) (Or.inl ⟨by rfl, ?hyR26⟩) (by assumption) ?_
          case hyR26 => (intro w hSw; (try dsimp only at hSw); go_simp; try with_reducible rfl)
          (try simp only [Act.put, List.setIfInBounds_toArray, List.set_cons_zero, List.set_cons_succ])
          refine wpAnyH_take (i := 27) (oi := { dst := some 69, op := Op.move (Operand.tmp 0), type := 40, pos := "law.go:78", after := #[{ on := 1, ground := Ground.guard }], guard := some (1, true) }) (v := ?_) rfl (by kernel_rfl) (by kernel_rfl) (by kernel_rfl) (fun _ _ _ h => h) (Or.inl ⟨by rfl, ?hyR27⟩) (by assumption) ?_
          case hyR27 => (intro w hSw; (try dsimp only at hSw); go_simp; try with_reducible rfl)
          (try simp only [Act.put, List.setIfInBounds_toArray, List.set_cons_zero, List.set_cons_succ])
          refine wpAnyH_take (i := 28) (oi := { dst := some 70, op := Op.move (Operand.tmp 8), type := 3, pos := "law.go:78", after := #[{ on := 1, ground := Ground.guard }], guard := some (1, true) }) (v := ?_) rfl (by kernel_rfl) (by kernel_rfl) (by kernel_rfl) (fun _ _ _ h => h) (Or.inl ⟨by rfl, ?hyR28⟩) (by assumption) ?_
          case hyR28 => (intro w hSw; (try dsimp only at hSw); go_simp; try with_reducible rfl)
          (try simp only [Act.put, List.setIfInBounds_toArray, List.set_cons_zero, List.set_cons_succ])
          refine wpAnyH_take (i := 29) (oi := { dst := some 71, op := Op.indexAddr 40 (Operand.tmp 69) (Operand.tmp 70), type := 0, pos := "law.go:78", after := #[{ on := 27, ground := Ground.data }, { on := 28, ground := Ground.data }, { on := 1, ground := Ground.guard }], guard := some (1, true) }) (v := ?_) rfl (by kernel_rfl) (by kernel_rfl) (by kernel_rfl) (fun _ _ _ h => h) (Or.inl ⟨by rfl, ?hyR29⟩) (by assumption) ?_
          case hyR29 => (intro w hSw; (try dsimp only at hSw); go_simp; try with_reducible rfl)
          (try simp only [Act.put, List.setIfInBounds_toArray, List.set_cons_zero, List.set_cons_succ])
          refine wpAnyH_take (i := 30) (oi := { dst := some 72, op := Op.load 2 (Operand.tmp 71), type := 2, pos := "law.go:78", after := #[{ on := 29, ground := Ground.data }, { on := 1, ground := Ground.guard }], guard := some (1, true) }) (v := ?_) rfl (by kernel_rfl) (by kernel_rfl) (by kernel_rfl) (fun _ _ _ h => h) (Or.inl ⟨by rfl, ?hyR30⟩) (by assumption) ?_
          case hyR30 => (intro w hSw; (try dsimp only at hSw); go_simp; try with_reducible rfl)
          (try simp only [Act.put, List.setIfInBounds_toArray, List.set_cons_zero, List.set_cons_succ])
          refine wpAnyH_take (i := 31) (oi := { dst := some 73, op := Op.binOp BinOp.gtr 2 (Operand.tmp 68) (Operand.tmp 72) 2, type := 4, pos := "law.go:78", after := #[{ on := 26, ground := Ground.data }, { on := 30, ground := Ground.data }, { on := 1, ground := Ground.guard }], guard := some (1, true) }) (v := ?_) rfl (by kernel_rfl) (by kernel_rfl) (by kernel_rfl) (fun _ _ _ h => h) (Or.inl ⟨by rfl, ?hyR31⟩) (by assumption) ?_
          case hyR31 => (intro w hSw; (try dsimp only at hSw); go_simp; try with_reducible rfl)
          (try simp only [Act.put, List.setIfInBounds_toArray, List.set_cons_zero, List.set_cons_succ])
          refine wpAnyH_take (i := 32) (oi := { dst := some 74, op := Op.move (Operand.tmp 0), type := 40, pos := "law.go:78", after := #[{ on := 1, ground := Ground.guard }], guard := some (1, true) }) (v := ?_) rfl (by kernel_rfl) (by kernel_rfl) (by kernel_rfl) (fun _ _ _ h => h) (Or.inl ⟨by rfl, ?hyR32⟩) (by assumption) ?_
          case hyR32 => (intro w hSw; (try dsimp only at hSw); go_simp; try with_reducible rfl)
          (try simp only [Act.put, List.setIfInBounds_toArray, List.set_cons_zero, List.set_cons_succ])
          refine wpAnyH_take (i := 33) (oi := { dst := some 75, op := Op.move (Operand.tmp 8), type := 3, pos := "law.go:78", after := #[{ on := 1, ground := Ground.guard }], guard := some (1, true) }) (v := ?_) rfl (by kernel_rfl) (by kernel_rfl) (by kernel_rfl) (fun _ _ _ h => h) (Or.inl ⟨by rfl, ?hyR33⟩) (by assumption) ?_
          case hyR33 => (intro w hSw; (try dsimp only at hSw); go_simp; try with_reducible rfl)
          (try simp only [Act.put, List.setIfInBounds_toArray, List.set_cons_zero, List.set_cons_succ])
          refine wpAnyH_take (i := 34) (oi := { dst := some 76, op := Op.binOp BinOp.sub 3 (Operand.tmp 75) (Operand.const (Value.int IntKind.i64 1)) 3, type := 3, pos := "law.go:78", after := #[{ on := 33, ground := Ground.data }, { on := 1, ground := Ground.guard }], guard := some (1, true) }) (v := ?_) rfl (by kernel_rfl) (by kernel_rfl) (by kernel_rfl) (fun _ _ _ h => h) (Or.inl ⟨by rfl, ?hyR34⟩) (by assumption) ?_
          case hyR34 => (intro w hSw; (try dsimp only at hSw); go_simp; try with_reducible rfl)
          (try simp only [Act.put, List.setIfInBounds_toArray, List.set_cons_zero, List.set_cons_succ])
          refine wpAnyH_take (i := 35) (oi := { dst := some 77, op := Op.indexAddr 40 (Operand.tmp 74) (Operand.tmp 76), type := 0, pos := "law.go:78", after := #[{ on := 32, ground := Ground.data }, { on := 34, ground := Ground.data }, { on := 1, ground := Ground.guard }], guard := some (1, true) }) (v := ?_) rfl (by kernel_rfl) (by kernel_rfl) (by kernel_rfl) (fun _ _ _ h => h) (Or.inl ⟨by rfl, ?hyR35⟩) (by assumption) ?_
          case hyR35 => (intro w hSw; (try dsimp only at hSw); go_simp; try with_reducible rfl)
          (try simp only [Act.put, List.setIfInBounds_toArray, List.set_cons_zero, List.set_cons_succ])
          refine wpAnyH_take (i := 36) (oi := { dst := some 78, op := Op.load 2 (Operand.tmp 77), type := 2, pos := "law.go:78", after := #[{ on := 35, ground := Ground.data }, { on := 1, ground := Ground.guard }], guard := some (1, true) }) (v := ?_) rfl (by kernel_rfl) (by kernel_rfl) (by kernel_rfl) (fun _ _ _ h => h) (Or.inl ⟨by rfl, ?hyR36⟩) (by assumption) ?_
          case hyR36 => (intro w hSw; (try dsimp only at hSw); go_simp; try with_reducible rfl)
          (try simp only [Act.put, List.setIfInBounds_toArray, List.set_cons_zero, List.set_cons_succ])
          refine wpAnyH_take (i := 37) (oi := { dst := some 79, op := Op.move (Operand.tmp 0), type := 40, pos := "law.go:78", after := #[{ on := 1, ground := Ground.guard }], guard := some (1, true) }) (v := ?_) rfl (by kernel_rfl) (by kernel_rfl) (by kernel_rfl) (fun _ _ _ h => h) (Or.inl ⟨by rfl, ?hyR37⟩) (by assumption) ?_
          case hyR37 => (intro w hSw; (try dsimp only at hSw); go_simp; try with_reducible rfl)
          (try simp only [Act.put, List.setIfInBounds_toArray, List.set_cons_zero, List.set_cons_succ])
          refine wpAnyH_take (i := 38) (oi := { dst := some 80, op := Op.move (Operand.tmp 8), type := 3, pos := "law.go:78", after := #[{ on := 1, ground := Ground.guard }], guard := some (1, true) }) (v := ?_) rfl (by kernel_rfl) (by kernel_rfl) (by kernel_rfl) (fun _ _ _ h => h) (Or.inl ⟨by rfl, ?hyR38⟩) (by assumption) ?_
          case hyR38 => (intro w hSw; (try dsimp only at hSw); go_simp; try with_reducible rfl)
          (try simp only [Act.put, List.setIfInBounds_toArray, List.set_cons_zero, List.set_cons_succ])
          refine wpAnyH_take (i := 39) (oi := { dst := some 81, op := Op.indexAddr 40 (Operand.tmp 79) (Operand.tmp 80), type := 0, pos := "law.go:78", after := #[{ on := 37, ground := Ground.data }, { on := 38, ground := Ground.data }, { on := 1, ground := Ground.guard }], guard := some (1, true) }) (v := ?_) rfl (by kernel_rfl) (by kernel_rfl) (by kernel_rfl) (fun _ _ _ h => h) (Or.inl ⟨by rfl, ?hyR39⟩) (by assumption) ?_
          case hyR39 => (intro w hSw; (try dsimp only at hSw); go_simp; try with_reducible rfl)
          (try simp only [Act.put, List.setIfInBounds_toArray, List.set_cons_zero, List.set_cons_succ])
          refine wpAnyH_take (i := 40) (oi := { dst := some 82, op := Op.load 2 (Operand.tmp 81), type := 2, pos := "law.go:78", after := #[{ on := 39, ground := Ground.data }, { on := 1, ground := Ground.guard }], guard := some (1, true) }) (v := ?_) rfl (by kernel_rfl) (by kernel_rfl) (by kernel_rfl) (fun _ _ _ h => h) (Or.inl ⟨by rfl, ?hyR40⟩) (by assumption) ?_
          case hyR40 => (intro w hSw; (try dsimp only at hSw); go_simp; try with_reducible rfl)
          (try simp only [Act.put, List.setIfInBounds_toArray, List.set_cons_zero, List.set_cons_succ])
          refine wpAnyH_take (i := 41) (oi := { dst := some 83, op := Op.binOp BinOp.geq 2 (Operand.tmp 78) (Operand.tmp 82) 2, type := 4, pos := "law.go:78", after := #[{ on := 36, ground := Ground.data }, { on := 40, ground := Ground.data }, { on := 1, ground := Ground.guard }], guard := some (1, true) }) (v := ?_) rfl (by kernel_rfl) (by kernel_rfl) (by kernel_rfl) (fun _ _ _ h => h) (Or.inl ⟨by rfl, ?hyR41⟩) (by assumption) ?_
          case hyR41 => (intro w hSw; (try dsimp only at hSw); go_simp; try with_reducible rfl)
          (try simp only [Act.put, List.setIfInBounds_toArray, List.set_cons_zero, List.set_cons_succ])
          refine wpAnyH_take (i := 43) (oi := { dst := some 85, op := Op.move (Operand.tmp 1), type := 5, pos := "law.go:78", after := #[{ on := 1, ground := Ground.guard }], guard := some (1, true) }) (v := ?_) rfl (by kernel_rfl) (by kernel_rfl) (by kernel_rfl) (fun _ _ _ h => h) (Or.inl ⟨by rfl, ?hyR43⟩) (by assumption) ?_
          case hyR43 => (intro w hSw; (try dsimp only at hSw); go_simp; try with_reducible rfl)
          (try simp only [Act.put, List.setIfInBounds_toArray, List.set_cons_zero, List.set_cons_succ])
          refine wpAnyH_take (i := 44) (oi := { dst := some 86, op := Op.binOp BinOp.and 5 (Operand.tmp 85) (Operand.const (Value.int IntKind.u8 3)) 5, type := 5, pos := "law.go:78", after := #[{ on := 43, ground := Ground.data }, { on := 1, ground := Ground.guard }], guard := some (1, true) }) (v := ?_) rfl (by kernel_rfl) (by kernel_rfl) (by kernel_rfl) (fun _ _ _ h => h) (Or.inl ⟨by rfl, ?hyR44⟩) (by assumption) ?_
          case hyR44 => (intro w hSw; (try dsimp only at hSw); go_simp; try with_reducible rfl)
          (try simp only [Act.put, List.setIfInBounds_toArray, List.set_cons_zero, List.set_cons_succ])
          refine wpAnyH_ready (rs := [42]) (by kernel_rfl) (by simp) ?_
          refine AllReadyH.cons (o := { dst := some 84, op := Op.buildSlice 42 4 #[(0, Operand.tmp 53), (1, Operand.tmp 63), (2, Operand.tmp 73), (3, Operand.tmp 83)], type := 42, pos := "law.go:78", after := #[{ on := 11, ground := Ground.data }, { on := 21, ground := Ground.data }, { on := 31, ground := Ground.data }, { on := 41, ground := Ground.data }, { on := 1, ground := Ground.guard }], guard := some (1, true) }) rfl (fun K hK => ?_) AllReadyH.nil
          go_simp
          refine hK.out _ _ ?_ (fun hHeldRm => ?_)
          · obtain ⟨q0, q1, q2, q3⟩ := hHeldR; exact ⟨alloc_cell q0, alloc_cell q1, below_alloc q2 q3, le_alloc q3⟩
          clear hK K hHeldR
          (try simp only [Act.put, List.setIfInBounds_toArray, List.set_cons_zero, List.set_cons_succ])
          refine wpAnyH_take (i := 45) (oi := { dst := some 87, op := Op.indexAddr 42 (Operand.tmp 84) (Operand.tmp 86), type := 0, pos := "law.go:78", after := #[{ on := 42, ground := Ground.data }, { on := 44, ground := Ground.data }, { on := 1, ground := Ground.guard }], guard := some (1, true) }) (v := ?_) rfl (by kernel_rfl) (by kernel_rfl) (by kernel_rfl) (fun _ _ _ h => h) (Or.inl ⟨by rfl, ?hyR45⟩) (by assumption) ?_
          case hyR45 => (intro w hSw; (try dsimp only at hSw); go_simp; try with_reducible rfl)
          (try simp only [Act.put, List.setIfInBounds_toArray, List.set_cons_zero, List.set_cons_succ])
          refine wpAnyH_ready (rs := [46]) (by kernel_rfl) (by simp) ?_
          refine AllReadyH.cons (o := { dst := some 88, op := Op.load 4 (Operand.tmp 87), type := 4, pos := "law.go:78", after := #[{ on := 45, ground := Ground.data }, { on := 1, ground := Ground.guard }], guard := some (1, true) }) rfl (fun K hK => ?_) AllReadyH.nil
          go_simp
          refine hK.out _ _ ?_ (fun hHeldRmm => ?_)
          · exact hHeldRm
          clear hK K hHeldRm
          (try simp only [Act.put, List.setIfInBounds_toArray, List.set_cons_zero, List.set_cons_succ])
          refine wpAnyH_take (i := 47) (oi := { dst := some 89, op := Op.pick (Operand.tmp 43) (Operand.tmp 88) (Operand.const (Value.bool false)), type := 4, pos := "law.go:78", after := #[{ on := 1, ground := Ground.data }, { on := 46, ground := Ground.data }], guard := none }) (v := ?_) rfl (by kernel_rfl) (by kernel_rfl) (by kernel_rfl) (fun _ _ _ h => h) (Or.inl ⟨by rfl, ?hyR47⟩) (by assumption) ?_
          case hyR47 => (intro w hSw; (try dsimp only at hSw); go_simp; try with_reducible rfl)
          (try simp only [Act.put, List.setIfInBounds_toArray, List.set_cons_zero, List.set_cons_succ])
          refine wpAnyH_take (i := 48) (oi := { dst := some 7, op := Op.assign (Operand.tmp 89), type := 4, pos := "law.go:78", after := #[{ on := 47, ground := Ground.data }, { on := 1, ground := Ground.chain }, { on := 0, ground := Ground.phase }, { on := 1, ground := Ground.phase }, { on := 2, ground := Ground.phase }, { on := 3, ground := Ground.phase }, { on := 4, ground := Ground.phase }, { on := 5, ground := Ground.phase }, { on := 6, ground := Ground.phase }, { on := 7, ground := Ground.phase }, { on := 8, ground := Ground.phase }, { on := 9, ground := Ground.phase }, { on := 10, ground := Ground.phase }, { on := 11, ground := Ground.phase }, { on := 12, ground := Ground.phase }, { on := 13, ground := Ground.phase }, { on := 14, ground := Ground.phase }, { on := 15, ground := Ground.phase }, { on := 16, ground := Ground.phase }, { on := 17, ground := Ground.phase }, { on := 18, ground := Ground.phase }, { on := 19, ground := Ground.phase }, { on := 20, ground := Ground.phase }, { on := 21, ground := Ground.phase }, { on := 22, ground := Ground.phase }, { on := 23, ground := Ground.phase }, { on := 24, ground := Ground.phase }, { on := 25, ground := Ground.phase }, { on := 26, ground := Ground.phase }, { on := 27, ground := Ground.phase }, { on := 28, ground := Ground.phase }, { on := 29, ground := Ground.phase }, { on := 30, ground := Ground.phase }, { on := 31, ground := Ground.phase }, { on := 32, ground := Ground.phase }, { on := 33, ground := Ground.phase }, { on := 34, ground := Ground.phase }, { on := 35, ground := Ground.phase }, { on := 36, ground := Ground.phase }, { on := 37, ground := Ground.phase }, { on := 38, ground := Ground.phase }, { on := 39, ground := Ground.phase }, { on := 40, ground := Ground.phase }, { on := 41, ground := Ground.phase }, { on := 42, ground := Ground.phase }, { on := 43, ground := Ground.phase }, { on := 44, ground := Ground.phase }, { on := 45, ground := Ground.phase }, { on := 46, ground := Ground.phase }, { on := 47, ground := Ground.phase }], guard := none }) (v := ?_) rfl (by kernel_rfl) (by kernel_rfl) (by kernel_rfl) (fun _ _ _ h => h) (Or.inl ⟨by rfl, ?hyR48⟩) (by assumption) ?_
          case hyR48 => (intro w hSw; (try dsimp only at hSw); go_simp; try with_reducible rfl)
          (try simp only [Act.put, List.setIfInBounds_toArray, List.set_cons_zero, List.set_cons_succ])
          refine wpAnyH_done (by kernel_rfl) ?_ _
          obtain ⟨_, _, hbl, _⟩ := hHeldRmm
          go_wp2
          go_roundw
          case rel => exact ⟨m + 2, _, by omega, by go_num, rfl, bown_next HO4.out hbl, next_trans' HB4.out hbl, HQ2⟩
          case measure => simp [intOf]; omega
    · have hki : ¬ (n : Int) < (N : Int) := by omega
      have hnN : n = N := by omega
      subst hnN
      have HO2 := HO.out
      have HQ2 := HQ.out
      rw [List.take_of_length_le (by rw [HN.out]; exact Nat.le_refl _)] at HO2 HQ2
      obtain ⟨g, cap2, rfl, _, HI, _, _⟩ := own_block (by rw [valsOf_len]; exact HN.out) (by omega) HO2
      have HI2 : Hid (IsVals wr (some ⟨g, 0, none⟩) (valsOf l)) := HI
      have HAq : Hid (applyR (code ⟨#[62, 61]⟩) (valsOf l) = (⟨2, 0, boolS q⟩, 0)) := by rw [Hid, HAp.out, HQ2]
      have HTr : Hid (TabW wr) := tab_next HT.out HWr.out
      have HLn : Hid ((valsOf l).length = n) := by rw [Hid, valsOf_len]; exact HN.out
      have HRr : Hid (∀ u ∈ valsOf l, rightV u) := rights_of HL.out
      clear HO HO2 HQ HQ2 HI HAp
      go_wp2_with fail
      refine (apply_any ⟨#[62, 61]⟩ 2 0 0 (boolS q) _ cap2 n _ _ HLn.out (by omega) HI2.out HRr.out HTr.out HAq.out).mono ?_
      rintro e w5 ⟨rfl, hb5⟩
      obtain ⟨x1, Hx1⟩ : ∃ x1, w5.heap.size = x1 := ⟨_, rfl⟩
      obtain ⟨W, HWe⟩ : ∃ W, W = w5.alloc (.cells #[.int .i64 2, .int .i64 0, .string (boolS q)] 26) := ⟨_, rfl⟩
      have g0 : W.drew.cell? ⟨x1, 0, none⟩ = some (.int .i64 2) := by rw [HWe]; exact box_cell Hx1.symm rfl
      have g1 : W.drew.cell? ⟨x1, 1, none⟩ = some (.int .i64 0) := by rw [HWe]; exact box_cell Hx1.symm rfl
      have g2 : W.drew.cell? ⟨x1, 2, none⟩ = some (.string (boolS q)) := by rw [HWe]; exact box_cell Hx1.symm rfl
      have s0 : Below w.heap.size w W.drew := by rw [HWe]; exact (next_trans' (next_trans' HWr.out hb5) (alloc_below' _ _)).drew
      have s1 : w.heap.size ≤ W.drew.heap.size := s0.size
      clear hb5 HI2 HTr HWr HV HL HT HRr HLn HAq
      go_wp2_with fail
      rw [← HWe]
      clear HWe
      refine wp_region_held_drew (S := (fun w' => w'.cell? ⟨x1, 0, none⟩ = some (.int .i64 2) ∧ w'.cell? ⟨x1, 1, none⟩ = some (.int .i64 0) ∧ w'.cell? ⟨x1, 2, none⟩ = some (.string (boolS q)) ∧ Below w.heap.size w w' ∧ w.heap.size ≤ w'.heap.size)) (by kernel_rfl) ?_ (fun hHeldA => ?_)
      · exact ⟨g0, g1, g2, s0, s1⟩
      refine wpAnyH_take (i := 0) (oi := { dst := some 96, op := Op.move (Operand.tmp 10), type := 27, pos := "law.go:82", after := #[], guard := none }) (v := ?_) rfl (by kernel_rfl) (by kernel_rfl) (by kernel_rfl) (fun _ _ _ h => h) (Or.inl ⟨by rfl, ?hyA0⟩) (by assumption) ?_
      case hyA0 => (intro w hSw; (try dsimp only at hSw); go_simp; try with_reducible rfl)
      (try simp only [Act.put, List.setIfInBounds_toArray, List.set_cons_zero, List.set_cons_succ])
      refine wpAnyH_take (i := 1) (oi := { dst := some 97, op := Op.binOp BinOp.eql 3 (Operand.tmp 96) (Operand.const (Value.int IntKind.i64 0)) 3, type := 4, pos := "law.go:82", after := #[{ on := 0, ground := Ground.data }], guard := none }) (v := ?_) rfl (by kernel_rfl) (by kernel_rfl) (by kernel_rfl) (fun _ _ _ h => h) (Or.inl ⟨by rfl, ?hyA1⟩) (by assumption) ?_
      case hyA1 => (intro w hSw; (try dsimp only at hSw); go_simp; try with_reducible rfl)
      (try simp only [Act.put, List.setIfInBounds_toArray, List.set_cons_zero, List.set_cons_succ])
      refine wpAnyH_take (i := 2) (oi := { dst := some 98, op := Op.move (Operand.tmp 97), type := 4, pos := "law.go:82", after := #[{ on := 1, ground := Ground.data }], guard := none }) (v := ?_) rfl (by kernel_rfl) (by kernel_rfl) (by kernel_rfl) (fun _ _ _ h => h) (Or.inl ⟨by rfl, ?hyA2⟩) (by assumption) ?_
      case hyA2 => (intro w hSw; (try dsimp only at hSw); go_simp; try with_reducible rfl)
      (try simp only [Act.put, List.setIfInBounds_toArray, List.set_cons_zero, List.set_cons_succ])
      refine wpAnyH_take (i := 3) (oi := { dst := some 99, op := Op.load 26 (Operand.tmp 9), type := 26, pos := "law.go:82", after := #[{ on := 2, ground := Ground.guard }], guard := some (2, true) }) (v := ?_) rfl (by kernel_rfl) (by kernel_rfl) (by kernel_rfl) (fun _ _ _ h => h) (Or.inl ⟨by rfl, ?hyA3⟩) (by assumption) ?_
      case hyA3 => (intro w hSw; (try dsimp only at hSw); go_simp; try with_reducible rfl)
      (try simp only [Act.put, List.setIfInBounds_toArray, List.set_cons_zero, List.set_cons_succ])
      refine wpAnyH_take (i := 4) (oi := { dst := some 100, op := Op.move (Operand.tmp 7), type := 4, pos := "law.go:82", after := #[{ on := 2, ground := Ground.guard }], guard := some (2, true) }) (v := ?_) rfl (by kernel_rfl) (by kernel_rfl) (by kernel_rfl) (fun _ _ _ h => h) (Or.inl ⟨by rfl, ?hyA4⟩) (by assumption) ?_
      case hyA4 => (intro w hSw; (try dsimp only at hSw); go_simp; try with_reducible rfl)
      (try simp only [Act.put, List.setIfInBounds_toArray, List.set_cons_zero, List.set_cons_succ])
      refine wpAnyH_ready (rs := [5]) (by kernel_rfl) (by simp) ?_
      refine AllReadyH.cons (o := { dst := some 101, op := Op.call { callee := Callee.value (Operand.func 21), args := #[Operand.tmp 100], argTypes := #[4] }, type := 26, pos := "law.go:82", after := #[{ on := 4, ground := Ground.data }, { on := 2, ground := Ground.chain }, { on := 2, ground := Ground.guard }], guard := some (2, true) }) rfl (fun K hK => ?_) AllReadyH.nil
      go_simp
      with_reducible refine (rbool_any _ _).mono ?_
      rintro e w' ⟨rfl, hb⟩
      refine hK.out _ _ ?_ (fun hHeldAx => ?_)
      · obtain ⟨q0, q1, q2, q3, q4⟩ := hHeldA
        exact ⟨keep_cell hb q0, keep_cell hb q1, keep_cell hb q2, below_next q3 hb q4, le_next q4 hb⟩
      clear hK K hb hHeldA
      (try simp only [Act.put, List.setIfInBounds_toArray, List.set_cons_zero, List.set_cons_succ])
      refine wpAnyH_ready (rs := [6]) (by kernel_rfl) (by simp) ?_
      refine AllReadyH.cons (o := { dst := some 102, op := Op.call { callee := Callee.value (Operand.func 15), args := #[Operand.tmp 99, Operand.tmp 101], argTypes := #[26, 26] }, type := 4, pos := "law.go:82", after := #[{ on := 3, ground := Ground.data }, { on := 5, ground := Ground.data }, { on := 5, ground := Ground.chain }, { on := 2, ground := Ground.guard }], guard := some (2, true) }) rfl (fun K hK => ?_) AllReadyH.nil
      go_simp
      with_reducible refine (HRf.out _ _ _ _).mono ?_
      rintro e w' ⟨rfl, hb⟩
      refine hK.out _ _ ?_ (fun hHeldAxx => ?_)
      · obtain ⟨q0, q1, q2, q3, q4⟩ := hHeldAx
        exact ⟨keep_cell hb q0, keep_cell hb q1, keep_cell hb q2, below_next q3 hb q4, le_next q4 hb⟩
      clear hK K hb hHeldAx
      (try simp only [Act.put, List.setIfInBounds_toArray, List.set_cons_zero, List.set_cons_succ])
      refine wpAnyH_take (i := 7) (oi := { dst := some 103, op := Op.pick (Operand.tmp 98) (Operand.tmp 102) (Operand.const (Value.bool false)), type := 4, pos := "law.go:82", after := #[{ on := 2, ground := Ground.data }, { on := 6, ground := Ground.data }], guard := none }) (v := ?_) rfl (by kernel_rfl) (by kernel_rfl) (by kernel_rfl) (fun _ _ _ h => h) (Or.inl ⟨by rfl, ?hyA7⟩) (by assumption) ?_
      case hyA7 => (intro w hSw; (try dsimp only at hSw); go_simp; try with_reducible rfl)
      (try simp only [Act.put, List.setIfInBounds_toArray, List.set_cons_zero, List.set_cons_succ])
      refine wpAnyH_take (i := 8) (oi := { dst := some 4, op := Op.assign (Operand.tmp 103), type := 4, pos := "law.go:82", after := #[{ on := 7, ground := Ground.data }, { on := 6, ground := Ground.chain }, { on := 0, ground := Ground.phase }, { on := 1, ground := Ground.phase }, { on := 2, ground := Ground.phase }, { on := 3, ground := Ground.phase }, { on := 4, ground := Ground.phase }, { on := 5, ground := Ground.phase }, { on := 6, ground := Ground.phase }, { on := 7, ground := Ground.phase }], guard := none }) (v := ?_) rfl (by kernel_rfl) (by kernel_rfl) (by kernel_rfl) (fun _ _ _ h => h) (Or.inl ⟨by rfl, ?hyA8⟩) (by assumption) ?_
      case hyA8 => (intro w hSw; (try dsimp only at hSw); go_simp; try with_reducible rfl)
      (try simp only [Act.put, List.setIfInBounds_toArray, List.set_cons_zero, List.set_cons_succ])
      refine wpAnyH_done (by kernel_rfl) ?_ _
      obtain ⟨_, _, _, hbl, _⟩ := hHeldAxx
      go_wp2
      go_ret
      exact ⟨rfl, hbl⟩

theorem chains_walk (ao : Option Addr) (N cap : Nat) (l : List Int) (a : Int) (w : World) (hN : l.length = N) (hv : IntsW w ao l) (hl : ∀ z ∈ l, inB z = true) (ha : 0 ≤ a ∧ a < 256) (ht : TabW w) :
    Calls Tryd.prog 5 #[.slice ao N cap, .int .u8 a] w fun e w' => e = .returned (.bool true) ∧ Below w.heap.size w w' := by
  by_cases h : N < 2 ∨ 30 < N
  · exact chains_out ao N cap a w h ht
  rcases and_cases ha with e | e | e | e
  · exact chains_0 ao N cap l a w e (by omega) (by omega) hN hv hl ht
  · exact chains_1 ao N cap l a w e (by omega) (by omega) hN hv hl ht
  · exact chains_2 ao N cap l a w e (by omega) (by omega) hN hv hl ht
  · exact chains_3 ao N cap l a w e (by omega) (by omega) hN hv hl ht
end Go.Proofs.YtfglmfldpmpofaaDoor
