/- The walk of TmplDefaults. -/
import Derived.Test.YtlniifheapoppaaDoorTmDfM
import Derived.Test.YtlniifheapoppaaDoorTmDfO
import Derived.Test.YtlniifheapoppaaDoorG30
import Derived.Test.YtlniifheapoppaaDoorG3
import Derived.Deep.RegionHeldLaw
import Derived.Deep.AppendLies
namespace Go.Proofs.YtlniifheapoppaaDoor
open Go.RowKit

theorem anam_chr (k : Nat) : chr (97 + (k : Int)) = anam k := by
  unfold chr anam
  rw [show (97 + (k : Int)).toNat = 97 + k by omega]
theorem slotsD_take {l : List Val} {k : Nat} {v : Val} (h : l[k]? = some v) : slotsD (l.take (k + 1)) 0 = slotsD (l.take k) 0 ++ [⟨anam k, v.k, v.i, v.s⟩] := by
  obtain ⟨hk, e⟩ := List.getElem?_eq_some_iff.1 h
  rw [List.take_succ_eq_append_getElem hk, e, slotsD_snoc, List.length_take, Nat.zero_add, Nat.min_eq_left (by omega)]
theorem valsD_succ (len turn n : Nat) : valsD len turn (n + 1) = valsD len turn n ++ [iV (kD len turn n)] := by
  unfold valsD; rw [List.range_succ, List.map_append]; rfl
theorem namesD_len (len turn n : Nat) : (namesD len turn n).length = n := by unfold namesD; simp
theorem valsD_len (len turn n : Nat) : (valsD len turn n).length = n := by unfold valsD; simp

set_option maxHeartbeats 16000000 in
set_option maxRecDepth 20000 in
theorem defaults9_walk (ao : Option Addr) (n cap : Nat) (l : List Val) (tu nd : Int) (w : World) (hl : l.length = n) (h : IsVals w ao l) (hsz : ∀ v ∈ l, v.s.size ≤ 9223372036854775807 ∧ inB v.i = true) (htu : 0 ≤ tu ∧ tu < 256) (hnd : 0 ≤ nd ∧ nd < 256) (h4 : TabW w ∧ MaxW w) :
    Calls Tryd.prog 3 #[.slice ao n cap, .int .u8 tu, .int .u8 nd] w fun e w' => e = .returned (.bool true) ∧ Below w.heap.size w w' := by
  have H4 : Hid (TabW w ∧ MaxW w) := h4
  have HI : Hid (IsVals w ao l) := h
  have HL : Hid (l.length = n) := hl
  have HSz : Hid (∀ v ∈ l, v.s.size ≤ 9223372036854775807 ∧ inB v.i = true) := hsz
  clear h hl h4 hsz
  obtain ⟨T, rfl⟩ : ∃ T : Nat, tu = (T : Int) := ⟨tu.toNat, by omega⟩
  obtain ⟨D, rfl⟩ : ∃ D : Nat, nd = (D : Int) := ⟨nd.toNat, by omega⟩
  have hT : T < 256 := by omega
  have hD : D < 256 := by omega
  clear htu hnd
  go_enter Tryd.func3, Tryd.ntmps3
  go_wp2_with fail
  refine (known9 w H4.out.1 H4.out.2).mono ?_
  rintro e w1 ⟨rfl, hb1⟩
  have HB1 : Hid (Below w.heap.size w w1) := hb1
  clear hb1
  by_cases hn0 : n = 0
  · subst hn0
    go_wp2
    go_ret
    exact ⟨rfl, HB1.out⟩
  have hnb : ((n : Int) == 0) = false := by simp; omega
  by_cases hn16 : 16 < n
  · have hni : (16 : Int) < (n : Int) := by omega
    go_wp2
    go_ret
    exact ⟨rfl, HB1.out⟩
  have hni : ¬ (16 : Int) < (n : Int) := by omega
  obtain ⟨TB, HTB⟩ : ∃ TB, Hid (w1.heap.size = TB) := ⟨_, rfl⟩
  obtain ⟨W, HWe⟩ : ∃ W, Hid (w1.alloc (.cells #[.string ⟨#[116]⟩, .slice none 0 0] 26) = W) := ⟨_, rfl⟩
  have HT0 : Hid (TdW w W TB (.slice none 0 0) 0 (slotsD (l.take 0) 0)) := by
    refine ⟨?_, Bx.made' HWe.out HTB.out, ?_, ?_⟩
    · rw [← HWe.out]; exact next_trans HB1.out (alloc_below _ _)
    · exact World.ownsRow_nil _ _ _ _
    · rw [← HTB.out]; exact HB1.out.size
  go_wp2
  rw [HWe.out, HTB.out]
  clear HWe HTB
  go_loopw [8] (fun q wr => ∃ (k : Nat) (v : Value), k ≤ n ∧ q = .int .i64 k ∧ Hid (TdW w wr TB v k (slotsD (l.take k) 0))) (fun q _ => n - (intOf q).toNat)
  case atStart => exact ⟨0, _, Nat.zero_le _, rfl, HT0⟩
  case round =>
    obtain ⟨k, v, hk, rfl, HT⟩ := hrel
    clear HT0
    by_cases hlt : k < n
    · have hki : (k : Int) < (n : Int) := by omega
      have hk0 : (0 : Int) ≤ (k : Int) := by omega
      obtain ⟨u, hu⟩ : ∃ u, l[k]? = some u := ⟨_, List.getElem?_eq_getElem (by rw [HL.out]; exact hlt)⟩
      have hob0 : ∀ b o, ao = some ⟨b, o, none⟩ → b < w.heap.size := fun b o e => by
        obtain ⟨b', o', e', c0', _⟩ := HI.out k _ hu
        rw [e] at e'
        have e1 := Option.some.inj e'
        injection e1 with e2
        subst e2
        exact World.block_lt_of_cell? w ⟨b, _, none⟩ c0'
      obtain ⟨b, o, rfl, c0, c1, c2⟩ := (HI.out.next HT.out.bel) k u hu
      have hob : b < w.heap.size := hob0 b o rfl
      have hsz := HSz.out u (List.mem_of_getElem? hu)
      have HKs0 := slotsD_take hu
      obtain ⟨vk, vi, vt⟩ := u
      simp only at c0 c1 c2 hsz HKs0
      have HKs : Hid (slsC (slotsD (l.take k) 0) ++ [.string (chr (97 + (k : Int))), .int .i64 vk, .int .i64 vi, .string vt] = slsC (slotsD (l.take (k + 1)) 0)) := by
        rw [Hid, HKs0, ← slsC_snoc, anam_chr]; rfl
      cases hr : rightB vk vi vt
      · have HRg : Hid (∀ w', Calls Tryd.prog 5 #[.agg #[.int .i64 (vk), .int .i64 (vi), .string (vt)]] w' fun e w2 => e = .returned (.bool false) ∧ Below w'.heap.size w' w2) := by
          intro w'; rw [← hr]; exact brright_any vk vi vt w' hsz.1
        clear hr hu hsz HKs0
        go_wp2_with fail
        refine (HRg.out _).mono ?_
        rintro e w5 ⟨rfl, hb5⟩
        have HB5 : Hid (Below w.heap.size w w5) := next_trans HT.out.bel hb5
        clear hb5
        go_wp2
        go_ret
        exact ⟨rfl, HB5.out⟩
      · have HRg : Hid (∀ w', Calls Tryd.prog 5 #[.agg #[.int .i64 (vk), .int .i64 (vi), .string (vt)]] w' fun e w2 => e = .returned (.bool true) ∧ Below w'.heap.size w' w2) := by
          intro w'; rw [← hr]; exact brright_any vk vi vt w' hsz.1
        clear hr hu hsz HKs0 hob0
        go_wp2_with fail
        refine (HRg.out _).mono ?_
        rintro e w5 ⟨rfl, hb5⟩
        have HT5 : Hid (TdW w w5 TB v k (slotsD (l.take k) 0)) := HT.out.next hb5
        have c0 := keep_cell hb5 c0
        have c1 := keep_cell hb5 c1
        have c2 := keep_cell hb5 c2
        clear hb5 HRg HT
        obtain ⟨to, tc, hv⟩ := own_slice HT5.out.own
        subst hv
        have HO : Hid (w5.ownsRow (TB + 1) 32 4 (.slice to k tc) k (slsC (slotsD (l.take k) 0))) := HT5.out.own
        have HOb : Hid (∀ j, (Value.slice to k tc).ownBlock = some j → TB + 1 ≤ j ∧ j < w5.heap.size) := fun j hj => HO.out.lt j hj
        have t1 : w5.cell? ⟨TB, 1, none⟩ = some (.slice to k tc) := HT5.out.t.cell 1
        have hlr : TB < w5.heap.size := HT5.out.t.lt
        have hlw := HT5.out.lt
        obtain ⟨i0, hi, hz0, hz1, hz2⟩ := infoSl'
        have hw8 : IntKind.u8.wrap (97 + (k : Int)) = 97 + (k : Int) := by unfold IntKind.wrap; simp [IntKind.bits, IntKind.signed]; omega
        have hw64 : IntKind.i64.wrap (97 + (k : Int)) = 97 + (k : Int) := by unfold IntKind.wrap; simp [IntKind.bits, IntKind.signed]; omega
        have hcv : (convert 30 9 (.slice (some ⟨w5.heap.size, 0, none⟩) 1 1)).run Tryd.prog (w5.alloc (.cells #[.int .u8 (97 + (k : Int))] 5)).drew = .ok (.string (chr (97 + (k : Int)))) (w5.alloc (.cells #[.int .u8 (97 + (k : Int))] 5)).drew := conv_one w5.drew (97 + (k : Int))
        go_wp2
        have hnew : ((w5.alloc (.cells #[.int .u8 (97 + (k : Int))] 5)).alloc (.cells #[.string (chr (97 + (k : Int))), .int .i64 vk, .int .i64 vi, .string vt] 32)).drew.heap[w5.heap.size + 1]? = some (.cells #[.string (chr (97 + (k : Int))), .int .i64 vk, .int .i64 vi, .string vt] 32) := by
          have := heap_alloc_new (w5.alloc (.cells #[.int .u8 (97 + (k : Int))] 5)) (.cells #[.string (chr (97 + (k : Int))), .int .i64 vk, .int .i64 vi, .string vt] 32)
          rw [show (w5.alloc (.cells #[.int .u8 (97 + (k : Int))] 5)).heap.size = w5.heap.size + 1 by simp] at this
          exact this
        refine wp_region_held_drew (S := (fun w' => w'.cell? ⟨b, o + k * 3, none⟩ = some (.int .i64 vk) ∧ w'.cell? ⟨b, o + k * 3 + 1, none⟩ = some (.int .i64 vi) ∧ w'.cell? ⟨b, o + k * 3 + 2, none⟩ = some (.string vt))) (by kernel_rfl) ?_ (fun hH => ?_)
        · exact ⟨c0, c1, c2⟩
        refine wpAnyH_take (i := 0) (oi := { dst := some 42, op := Op.fieldAddr 26 (Operand.tmp 7) 1, type := 0, pos := "more.go:22", after := #[], guard := none }) (v := ?_) rfl (by kernel_rfl) (by kernel_rfl) (by kernel_rfl) (fun _ _ _ h => h) (Or.inl ⟨by rfl, ?hy0⟩) (by assumption) ?_
        case hy0 => (intro w hSw; (try dsimp only at hSw); go_simp; try with_reducible rfl)
        (try simp only [Act.put, List.setIfInBounds_toArray, List.set_cons_zero, List.set_cons_succ])
        refine wpAnyH_take (i := 2) (oi := { dst := some 44, op := Op.move (Operand.tmp 8), type := 3, pos := "more.go:22", after := #[], guard := none }) (v := ?_) rfl (by kernel_rfl) (by kernel_rfl) (by kernel_rfl) (fun _ _ _ h => h) (Or.inl ⟨by rfl, ?hy2⟩) (by assumption) ?_
        case hy2 => (intro w hSw; (try dsimp only at hSw); go_simp; try with_reducible rfl)
        (try simp only [Act.put, List.setIfInBounds_toArray, List.set_cons_zero, List.set_cons_succ])
        refine wpAnyH_take (i := 3) (oi := { dst := some 45, op := Op.binOp BinOp.add 3 (Operand.const (Value.int IntKind.i64 97)) (Operand.tmp 44) 3, type := 3, pos := "more.go:22", after := #[{ on := 2, ground := Ground.data }], guard := none }) (v := ?_) rfl (by kernel_rfl) (by kernel_rfl) (by kernel_rfl) (fun _ _ _ h => h) (Or.inl ⟨by rfl, ?hy3⟩) (by assumption) ?_
        case hy3 => (intro w hSw; (try dsimp only at hSw); go_simp; try with_reducible rfl)
        (try simp only [Act.put, List.setIfInBounds_toArray, List.set_cons_zero, List.set_cons_succ])
        refine wpAnyH_take (i := 4) (oi := { dst := some 46, op := Op.convert 3 5 (Operand.tmp 45), type := 5, pos := "more.go:22", after := #[{ on := 3, ground := Ground.data }], guard := none }) (v := ?_) rfl (by kernel_rfl) (by kernel_rfl) (by kernel_rfl) (fun _ _ _ h => h) (Or.inl ⟨by rfl, ?hy4⟩) (by assumption) ?_
        case hy4 => (intro w hSw; (try dsimp only at hSw); go_simp; try with_reducible rfl)
        (try simp only [Act.put, List.setIfInBounds_toArray, List.set_cons_zero, List.set_cons_succ])
        refine wpAnyH_take (i := 7) (oi := { dst := some 49, op := Op.move (Operand.tmp 0), type := 22, pos := "more.go:22", after := #[], guard := none }) (v := ?_) rfl (by kernel_rfl) (by kernel_rfl) (by kernel_rfl) (fun _ _ _ h => h) (Or.inl ⟨by rfl, ?hy7⟩) (by assumption) ?_
        case hy7 => (intro w hSw; (try dsimp only at hSw); go_simp; try with_reducible rfl)
        (try simp only [Act.put, List.setIfInBounds_toArray, List.set_cons_zero, List.set_cons_succ])
        refine wpAnyH_take (i := 8) (oi := { dst := some 50, op := Op.move (Operand.tmp 8), type := 3, pos := "more.go:22", after := #[], guard := none }) (v := ?_) rfl (by kernel_rfl) (by kernel_rfl) (by kernel_rfl) (fun _ _ _ h => h) (Or.inl ⟨by rfl, ?hy8⟩) (by assumption) ?_
        case hy8 => (intro w hSw; (try dsimp only at hSw); go_simp; try with_reducible rfl)
        (try simp only [Act.put, List.setIfInBounds_toArray, List.set_cons_zero, List.set_cons_succ])
        refine wpAnyH_take (i := 9) (oi := { dst := some 51, op := Op.indexAddr 22 (Operand.tmp 49) (Operand.tmp 50), type := 0, pos := "more.go:22", after := #[{ on := 7, ground := Ground.data }, { on := 8, ground := Ground.data }], guard := none }) (v := ?_) rfl (by kernel_rfl) (by kernel_rfl) (by kernel_rfl) (fun _ _ _ h => h) (Or.inl ⟨by rfl, ?hy9⟩) (by assumption) ?_
        case hy9 => (intro w hSw; (try dsimp only at hSw); go_simp; try with_reducible rfl)
        (try simp only [Act.put, List.setIfInBounds_toArray, List.set_cons_zero, List.set_cons_succ])
        refine wpAnyH_take (i := 10) (oi := { dst := some 52, op := Op.load 29 (Operand.tmp 51), type := 29, pos := "more.go:22", after := #[{ on := 9, ground := Ground.data }], guard := none }) (v := ?_) rfl (by kernel_rfl) (by kernel_rfl) (by kernel_rfl) (fun _ _ _ h => h) (Or.inl ⟨by rfl, ?hy10⟩) (by assumption) ?_
        case hy10 => (intro w hSw; (try dsimp only at hSw); go_simp; try with_reducible rfl)
        (try simp only [Act.put, List.setIfInBounds_toArray, List.set_cons_zero, List.set_cons_succ])
        refine wpAnyH_ready (rs := [1, 5]) (by kernel_rfl) (by simp) ?_
        refine (AllReadyH.cons (o := { dst := some 43, op := Op.load 24 (Operand.tmp 42), type := 24, pos := "more.go:22", after := #[{ on := 0, ground := Ground.data }], guard := none }) rfl (fun K hK => ?_) (AllReadyH.cons (o := { dst := some 47, op := Op.buildSlice 30 1 #[(0, Operand.tmp 46)], type := 30, pos := "more.go:22", after := #[{ on := 4, ground := Ground.data }], guard := none }) rfl (fun K hK => ?_) AllReadyH.nil))
        · skip
          go_simp
          refine hK.out _ _ ?_ (fun hI0 => ?_)
          · exact hH
          clear hK K
          (try simp only [Act.put, List.setIfInBounds_toArray, List.set_cons_zero, List.set_cons_succ])
          refine wpAnyH_ready (rs := [5]) (by kernel_rfl) (by simp) ?_
          refine (AllReadyH.cons (o := { dst := some 47, op := Op.buildSlice 30 1 #[(0, Operand.tmp 46)], type := 30, pos := "more.go:22", after := #[{ on := 4, ground := Ground.data }], guard := none }) rfl (fun K hK => ?_) AllReadyH.nil)
          go_simp
          refine hK.out _ _ ?_ (fun hI1 => ?_)
          · exact ⟨alloc_cell hI0.1, alloc_cell hI0.2.1, alloc_cell hI0.2.2⟩
          clear hK K
          (try simp only [Act.put, List.setIfInBounds_toArray, List.set_cons_zero, List.set_cons_succ])
          refine wpAnyH_ready (rs := [6]) (by kernel_rfl) (by simp) ?_
          refine (AllReadyH.cons (o := { dst := some 48, op := Op.convert 30 9 (Operand.tmp 47), type := 9, pos := "more.go:22", after := #[{ on := 5, ground := Ground.data }], guard := none }) rfl (fun K hK => ?_) AllReadyH.nil)
          go_simp
          refine hK.out _ _ ?_ (fun hI2 => ?_)
          · exact hI1
          clear hK K
          (try simp only [Act.put, List.setIfInBounds_toArray, List.set_cons_zero, List.set_cons_succ])
          refine wpAnyH_take (i := 11) (oi := { dst := some 53, op := Op.build 32 #[(0, Operand.tmp 48), (1, Operand.tmp 52)], type := 32, pos := "more.go:22", after := #[{ on := 6, ground := Ground.data }, { on := 10, ground := Ground.data }], guard := none }) (v := ?_) rfl (by kernel_rfl) (by kernel_rfl) (by kernel_rfl) (fun _ _ _ h => h) (Or.inl ⟨by rfl, ?hy11⟩) (by assumption) ?_
          case hy11 => (intro w hSw; (try dsimp only at hSw); go_simp; try with_reducible rfl)
          (try simp only [Act.put, List.setIfInBounds_toArray, List.set_cons_zero, List.set_cons_succ])
          refine wpAnyH_ready (rs := [12]) (by kernel_rfl) (by simp) ?_
          refine (AllReadyH.cons (o := { dst := some 54, op := Op.buildSlice 24 1 #[(0, Operand.tmp 53)], type := 24, pos := "more.go:22", after := #[{ on := 11, ground := Ground.data }], guard := none }) rfl (fun K hK => ?_) AllReadyH.nil)
          go_simp
          refine hK.out _ _ ?_ (fun hI3 => ?_)
          · exact ⟨alloc_cell hI2.1, alloc_cell hI2.2.1, alloc_cell hI2.2.2⟩
          clear hK K
          (try simp only [Act.put, List.setIfInBounds_toArray, List.set_cons_zero, List.set_cons_succ])
          refine wpAnyH_ready (rs := [13]) (by kernel_rfl) (by simp) ?_
          refine (AllReadyH.cons (o := { dst := some 55, op := Op.call { callee := Callee.builtin Builtin.append, args := #[Operand.tmp 43, Operand.tmp 54], argTypes := #[24, 24] }, type := 24, pos := "more.go:22", after := #[{ on := 1, ground := Ground.data }, { on := 12, ground := Ground.data }], guard := none }) rfl (fun K hK => ?_) AllReadyH.nil)
          refine step_append_lies _ (by rfl) _ _ _ (by rfl) (TB + 1) 32 i0 zeroSl 4 48 Tryd.underlying24 hi hz0 hz1 hz2 rfl (by decide) (.slice to k tc) k (slsC (slotsD (l.take k) 0)) (by rfl) (((HO.out.alloc _).alloc _).drew) ⟨w5.heap.size + 1, 0, none⟩ 1 1 [.string (chr (97 + (k : Int))), .int .i64 vk, .int .i64 vi, .string vt] (by rfl) (by rfl) (World.news_of_block (cs := #[.string (chr (97 + (k : Int))), .int .i64 vk, .int .i64 vi, .string vt]) (t := 32) (fr := (0, 0)) hnew) (by simp [Value.oneCell']) (by decide) (by unfold maxLen; omega) (by omega) (by simp; omega) (w5.heap.size + 2) (by simp) ?_
          intro gk gcap w3 hown hgrow hat3 hlt3
          have q0 := hgrow.cell ((alloc_cell (alloc_cell c0) : ((w5.alloc (.cells #[.int .u8 (97 + (k : Int))] 5)).alloc (.cells #[.string (chr (97 + (k : Int))), .int .i64 vk, .int .i64 vi, .string vt] 32)).drew.cell? _ = _)) (fun e => by have h9 := (HOb.out _ e.symm).1; simp only at h9; omega)
          have q1 := hgrow.cell ((alloc_cell (alloc_cell c1) : ((w5.alloc (.cells #[.int .u8 (97 + (k : Int))] 5)).alloc (.cells #[.string (chr (97 + (k : Int))), .int .i64 vk, .int .i64 vi, .string vt] 32)).drew.cell? _ = _)) (fun e => by have h9 := (HOb.out _ e.symm).1; simp only at h9; omega)
          have q2 := hgrow.cell ((alloc_cell (alloc_cell c2) : ((w5.alloc (.cells #[.int .u8 (97 + (k : Int))] 5)).alloc (.cells #[.string (chr (97 + (k : Int))), .int .i64 vk, .int .i64 vi, .string vt] 32)).drew.cell? _ = _)) (fun e => by have h9 := (HOb.out _ e.symm).1; simp only at h9; omega)
          have hgb : ∀ j, j < TB + 1 → w3.heap[j]? = w5.heap[j]? := fun j hj => (hgrow.block j (by simp; omega) (fun e => by have := (HOb.out j e.symm).1; omega)).trans (show ((w5.alloc (.cells #[.int .u8 (97 + (k : Int))] 5)).alloc (.cells #[.string (chr (97 + (k : Int))), .int .i64 vk, .int .i64 vi, .string vt] 32)).heap[j]? = w5.heap[j]? from (Below.heap_alloc _ _ _ (by simp; omega)).trans (Below.heap_alloc _ _ _ (by omega)))
          have t3 : w3.cell? ⟨TB, 1, none⟩ = some (.slice to k tc) := (HT5.out.t.keep (hgb _ (by omega))).cell 1
          have tf := (HT5.out.t.keep (hgb _ (by omega))).froz
          refine hK.out _ _ ?_ (fun hI4 => ?_)
          · exact ⟨q0, q1, q2⟩
          clear hK K
          (try simp only [Act.put, List.setIfInBounds_toArray, List.set_cons_zero, List.set_cons_succ])
          refine wpAnyH_take (i := 14) (oi := { dst := some 56, op := Op.fieldAddr 26 (Operand.tmp 7) 1, type := 0, pos := "more.go:22", after := #[{ on := 0, ground := Ground.phase }, { on := 1, ground := Ground.phase }, { on := 2, ground := Ground.phase }, { on := 3, ground := Ground.phase }, { on := 4, ground := Ground.phase }, { on := 5, ground := Ground.phase }, { on := 6, ground := Ground.phase }, { on := 7, ground := Ground.phase }, { on := 8, ground := Ground.phase }, { on := 9, ground := Ground.phase }, { on := 10, ground := Ground.phase }, { on := 11, ground := Ground.phase }, { on := 12, ground := Ground.phase }, { on := 13, ground := Ground.phase }], guard := none }) (v := ?_) rfl (by kernel_rfl) (by kernel_rfl) (by kernel_rfl) (fun _ _ _ h => h) (Or.inl ⟨by rfl, ?hy14⟩) (by assumption) ?_
          case hy14 => (intro w hSw; (try dsimp only at hSw); go_simp; try with_reducible rfl)
          (try simp only [Act.put, List.setIfInBounds_toArray, List.set_cons_zero, List.set_cons_succ])
          refine wpAnyH_ready (rs := [15]) (by kernel_rfl) (by simp) ?_
          refine (AllReadyH.cons (o := { dst := none, op := Op.store 24 (Operand.tmp 56) (Operand.tmp 55), type := 0, pos := "more.go:22", after := #[{ on := 14, ground := Ground.data }, { on := 13, ground := Ground.data }, { on := 13, ground := Ground.chain }, { on := 0, ground := Ground.phase }, { on := 1, ground := Ground.phase }, { on := 2, ground := Ground.phase }, { on := 3, ground := Ground.phase }, { on := 4, ground := Ground.phase }, { on := 5, ground := Ground.phase }, { on := 6, ground := Ground.phase }, { on := 7, ground := Ground.phase }, { on := 8, ground := Ground.phase }, { on := 9, ground := Ground.phase }, { on := 10, ground := Ground.phase }, { on := 11, ground := Ground.phase }, { on := 12, ground := Ground.phase }, { on := 13, ground := Ground.phase }], guard := none }) rfl (fun K hK => ?_) AllReadyH.nil)
          go_simp
          refine hK.out _ _ ?_ (fun hI5 => ?_)
          · exact ⟨(World.cell?_setCell_far _ _ _ _ (by show _ ≠ _; simp only; omega)).trans hI4.1, (World.cell?_setCell_far _ _ _ _ (by show _ ≠ _; simp only; omega)).trans hI4.2.1, (World.cell?_setCell_far _ _ _ _ (by show _ ≠ _; simp only; omega)).trans hI4.2.2⟩
          clear hK K
          (try simp only [Act.put, List.setIfInBounds_toArray, List.set_cons_zero, List.set_cons_succ])
          refine wpAnyH_done (by kernel_rfl) ?_ _
          have hO3 : w3.ownsRow (TB + 1) 32 4 (.slice (some ⟨gk, 0, none⟩) (k + 1) gcap) (k + 1) (slsC (slotsD (l.take (k + 1)) 0)) := by rw [← HKs.out]; exact hown
          have hB3 : Below w.heap.size w w3 := by
            have hs := HT5.out.bel.size
            refine HT5.out.bel.trans (((((Below.refl _ w5).alloc hs _).alloc (by simp; omega) _).drew).grown hgrow (by simp; omega) (fun j hj => ?_))
            have := (HOb.out j hj).1
            omega
          have HN3 : Hid (TdW w (w3.setCell ⟨TB, 1, none⟩ (.slice (some ⟨gk, 0, none⟩) (k + 1) gcap)) TB (.slice (some ⟨gk, 0, none⟩) (k + 1) gcap) (k + 1) (slotsD (l.take (k + 1)) 0)) :=
            ⟨set_bel hB3 (by omega), (HT5.out.t.keep (hgb _ (by omega))).set 1 _, ownsRow_setCell_below hO3 (by show TB < TB + 1; omega) _, HT5.out.lt⟩
          clear hown hgrow hat3 hlt3 q0 q1 q2 hgb t3 tf hO3 hB3 HT5 HO HOb t1 c0 c1 c2 hnew hcv
          go_wp2
          go_roundw
          case rel => exact ⟨k + 1, _, by omega, by go_num, HN3⟩
          case measure => simp [intOf]; omega
        · skip
          go_simp
          refine hK.out _ _ ?_ (fun hI0 => ?_)
          · exact ⟨alloc_cell hH.1, alloc_cell hH.2.1, alloc_cell hH.2.2⟩
          clear hK K
          (try simp only [Act.put, List.setIfInBounds_toArray, List.set_cons_zero, List.set_cons_succ])
          refine wpAnyH_ready (rs := [1, 6]) (by kernel_rfl) (by simp) ?_
          refine (AllReadyH.cons (o := { dst := some 43, op := Op.load 24 (Operand.tmp 42), type := 24, pos := "more.go:22", after := #[{ on := 0, ground := Ground.data }], guard := none }) rfl (fun K hK => ?_) (AllReadyH.cons (o := { dst := some 48, op := Op.convert 30 9 (Operand.tmp 47), type := 9, pos := "more.go:22", after := #[{ on := 5, ground := Ground.data }], guard := none }) rfl (fun K hK => ?_) AllReadyH.nil))
          · skip
            go_simp
            refine hK.out _ _ ?_ (fun hI1 => ?_)
            · exact hI0
            clear hK K
            (try simp only [Act.put, List.setIfInBounds_toArray, List.set_cons_zero, List.set_cons_succ])
            refine wpAnyH_ready (rs := [6]) (by kernel_rfl) (by simp) ?_
            refine (AllReadyH.cons (o := { dst := some 48, op := Op.convert 30 9 (Operand.tmp 47), type := 9, pos := "more.go:22", after := #[{ on := 5, ground := Ground.data }], guard := none }) rfl (fun K hK => ?_) AllReadyH.nil)
            go_simp
            refine hK.out _ _ ?_ (fun hI2 => ?_)
            · exact hI1
            clear hK K
            (try simp only [Act.put, List.setIfInBounds_toArray, List.set_cons_zero, List.set_cons_succ])
            refine wpAnyH_take (i := 11) (oi := { dst := some 53, op := Op.build 32 #[(0, Operand.tmp 48), (1, Operand.tmp 52)], type := 32, pos := "more.go:22", after := #[{ on := 6, ground := Ground.data }, { on := 10, ground := Ground.data }], guard := none }) (v := ?_) rfl (by kernel_rfl) (by kernel_rfl) (by kernel_rfl) (fun _ _ _ h => h) (Or.inl ⟨by rfl, ?hy11⟩) (by assumption) ?_
            case hy11 => (intro w hSw; (try dsimp only at hSw); go_simp; try with_reducible rfl)
            (try simp only [Act.put, List.setIfInBounds_toArray, List.set_cons_zero, List.set_cons_succ])
            refine wpAnyH_ready (rs := [12]) (by kernel_rfl) (by simp) ?_
            refine (AllReadyH.cons (o := { dst := some 54, op := Op.buildSlice 24 1 #[(0, Operand.tmp 53)], type := 24, pos := "more.go:22", after := #[{ on := 11, ground := Ground.data }], guard := none }) rfl (fun K hK => ?_) AllReadyH.nil)
            go_simp
            refine hK.out _ _ ?_ (fun hI3 => ?_)
            · exact ⟨alloc_cell hI2.1, alloc_cell hI2.2.1, alloc_cell hI2.2.2⟩
            clear hK K
            (try simp only [Act.put, List.setIfInBounds_toArray, List.set_cons_zero, List.set_cons_succ])
            refine wpAnyH_ready (rs := [13]) (by kernel_rfl) (by simp) ?_
            refine (AllReadyH.cons (o := { dst := some 55, op := Op.call { callee := Callee.builtin Builtin.append, args := #[Operand.tmp 43, Operand.tmp 54], argTypes := #[24, 24] }, type := 24, pos := "more.go:22", after := #[{ on := 1, ground := Ground.data }, { on := 12, ground := Ground.data }], guard := none }) rfl (fun K hK => ?_) AllReadyH.nil)
            refine step_append_lies _ (by rfl) _ _ _ (by rfl) (TB + 1) 32 i0 zeroSl 4 48 Tryd.underlying24 hi hz0 hz1 hz2 rfl (by decide) (.slice to k tc) k (slsC (slotsD (l.take k) 0)) (by rfl) (((HO.out.alloc _).alloc _).drew) ⟨w5.heap.size + 1, 0, none⟩ 1 1 [.string (chr (97 + (k : Int))), .int .i64 vk, .int .i64 vi, .string vt] (by rfl) (by rfl) (World.news_of_block (cs := #[.string (chr (97 + (k : Int))), .int .i64 vk, .int .i64 vi, .string vt]) (t := 32) (fr := (0, 0)) hnew) (by simp [Value.oneCell']) (by decide) (by unfold maxLen; omega) (by omega) (by simp; omega) (w5.heap.size + 2) (by simp) ?_
            intro gk gcap w3 hown hgrow hat3 hlt3
            have q0 := hgrow.cell ((alloc_cell (alloc_cell c0) : ((w5.alloc (.cells #[.int .u8 (97 + (k : Int))] 5)).alloc (.cells #[.string (chr (97 + (k : Int))), .int .i64 vk, .int .i64 vi, .string vt] 32)).drew.cell? _ = _)) (fun e => by have h9 := (HOb.out _ e.symm).1; simp only at h9; omega)
            have q1 := hgrow.cell ((alloc_cell (alloc_cell c1) : ((w5.alloc (.cells #[.int .u8 (97 + (k : Int))] 5)).alloc (.cells #[.string (chr (97 + (k : Int))), .int .i64 vk, .int .i64 vi, .string vt] 32)).drew.cell? _ = _)) (fun e => by have h9 := (HOb.out _ e.symm).1; simp only at h9; omega)
            have q2 := hgrow.cell ((alloc_cell (alloc_cell c2) : ((w5.alloc (.cells #[.int .u8 (97 + (k : Int))] 5)).alloc (.cells #[.string (chr (97 + (k : Int))), .int .i64 vk, .int .i64 vi, .string vt] 32)).drew.cell? _ = _)) (fun e => by have h9 := (HOb.out _ e.symm).1; simp only at h9; omega)
            have hgb : ∀ j, j < TB + 1 → w3.heap[j]? = w5.heap[j]? := fun j hj => (hgrow.block j (by simp; omega) (fun e => by have := (HOb.out j e.symm).1; omega)).trans (show ((w5.alloc (.cells #[.int .u8 (97 + (k : Int))] 5)).alloc (.cells #[.string (chr (97 + (k : Int))), .int .i64 vk, .int .i64 vi, .string vt] 32)).heap[j]? = w5.heap[j]? from (Below.heap_alloc _ _ _ (by simp; omega)).trans (Below.heap_alloc _ _ _ (by omega)))
            have t3 : w3.cell? ⟨TB, 1, none⟩ = some (.slice to k tc) := (HT5.out.t.keep (hgb _ (by omega))).cell 1
            have tf := (HT5.out.t.keep (hgb _ (by omega))).froz
            refine hK.out _ _ ?_ (fun hI4 => ?_)
            · exact ⟨q0, q1, q2⟩
            clear hK K
            (try simp only [Act.put, List.setIfInBounds_toArray, List.set_cons_zero, List.set_cons_succ])
            refine wpAnyH_take (i := 14) (oi := { dst := some 56, op := Op.fieldAddr 26 (Operand.tmp 7) 1, type := 0, pos := "more.go:22", after := #[{ on := 0, ground := Ground.phase }, { on := 1, ground := Ground.phase }, { on := 2, ground := Ground.phase }, { on := 3, ground := Ground.phase }, { on := 4, ground := Ground.phase }, { on := 5, ground := Ground.phase }, { on := 6, ground := Ground.phase }, { on := 7, ground := Ground.phase }, { on := 8, ground := Ground.phase }, { on := 9, ground := Ground.phase }, { on := 10, ground := Ground.phase }, { on := 11, ground := Ground.phase }, { on := 12, ground := Ground.phase }, { on := 13, ground := Ground.phase }], guard := none }) (v := ?_) rfl (by kernel_rfl) (by kernel_rfl) (by kernel_rfl) (fun _ _ _ h => h) (Or.inl ⟨by rfl, ?hy14⟩) (by assumption) ?_
            case hy14 => (intro w hSw; (try dsimp only at hSw); go_simp; try with_reducible rfl)
            (try simp only [Act.put, List.setIfInBounds_toArray, List.set_cons_zero, List.set_cons_succ])
            refine wpAnyH_ready (rs := [15]) (by kernel_rfl) (by simp) ?_
            refine (AllReadyH.cons (o := { dst := none, op := Op.store 24 (Operand.tmp 56) (Operand.tmp 55), type := 0, pos := "more.go:22", after := #[{ on := 14, ground := Ground.data }, { on := 13, ground := Ground.data }, { on := 13, ground := Ground.chain }, { on := 0, ground := Ground.phase }, { on := 1, ground := Ground.phase }, { on := 2, ground := Ground.phase }, { on := 3, ground := Ground.phase }, { on := 4, ground := Ground.phase }, { on := 5, ground := Ground.phase }, { on := 6, ground := Ground.phase }, { on := 7, ground := Ground.phase }, { on := 8, ground := Ground.phase }, { on := 9, ground := Ground.phase }, { on := 10, ground := Ground.phase }, { on := 11, ground := Ground.phase }, { on := 12, ground := Ground.phase }, { on := 13, ground := Ground.phase }], guard := none }) rfl (fun K hK => ?_) AllReadyH.nil)
            go_simp
            refine hK.out _ _ ?_ (fun hI5 => ?_)
            · exact ⟨(World.cell?_setCell_far _ _ _ _ (by show _ ≠ _; simp only; omega)).trans hI4.1, (World.cell?_setCell_far _ _ _ _ (by show _ ≠ _; simp only; omega)).trans hI4.2.1, (World.cell?_setCell_far _ _ _ _ (by show _ ≠ _; simp only; omega)).trans hI4.2.2⟩
            clear hK K
            (try simp only [Act.put, List.setIfInBounds_toArray, List.set_cons_zero, List.set_cons_succ])
            refine wpAnyH_done (by kernel_rfl) ?_ _
            have hO3 : w3.ownsRow (TB + 1) 32 4 (.slice (some ⟨gk, 0, none⟩) (k + 1) gcap) (k + 1) (slsC (slotsD (l.take (k + 1)) 0)) := by rw [← HKs.out]; exact hown
            have hB3 : Below w.heap.size w w3 := by
              have hs := HT5.out.bel.size
              refine HT5.out.bel.trans (((((Below.refl _ w5).alloc hs _).alloc (by simp; omega) _).drew).grown hgrow (by simp; omega) (fun j hj => ?_))
              have := (HOb.out j hj).1
              omega
            have HN3 : Hid (TdW w (w3.setCell ⟨TB, 1, none⟩ (.slice (some ⟨gk, 0, none⟩) (k + 1) gcap)) TB (.slice (some ⟨gk, 0, none⟩) (k + 1) gcap) (k + 1) (slotsD (l.take (k + 1)) 0)) :=
              ⟨set_bel hB3 (by omega), (HT5.out.t.keep (hgb _ (by omega))).set 1 _, ownsRow_setCell_below hO3 (by show TB < TB + 1; omega) _, HT5.out.lt⟩
            clear hown hgrow hat3 hlt3 q0 q1 q2 hgb t3 tf hO3 hB3 HT5 HO HOb t1 c0 c1 c2 hnew hcv
            go_wp2
            go_roundw
            case rel => exact ⟨k + 1, _, by omega, by go_num, HN3⟩
            case measure => simp [intOf]; omega
          · skip
            go_simp
            refine hK.out _ _ ?_ (fun hI1 => ?_)
            · exact hI0
            clear hK K
            (try simp only [Act.put, List.setIfInBounds_toArray, List.set_cons_zero, List.set_cons_succ])
            refine wpAnyH_take (i := 11) (oi := { dst := some 53, op := Op.build 32 #[(0, Operand.tmp 48), (1, Operand.tmp 52)], type := 32, pos := "more.go:22", after := #[{ on := 6, ground := Ground.data }, { on := 10, ground := Ground.data }], guard := none }) (v := ?_) rfl (by kernel_rfl) (by kernel_rfl) (by kernel_rfl) (fun _ _ _ h => h) (Or.inl ⟨by rfl, ?hy11⟩) (by assumption) ?_
            case hy11 => (intro w hSw; (try dsimp only at hSw); go_simp; try with_reducible rfl)
            (try simp only [Act.put, List.setIfInBounds_toArray, List.set_cons_zero, List.set_cons_succ])
            refine wpAnyH_ready (rs := [1, 12]) (by kernel_rfl) (by simp) ?_
            refine (AllReadyH.cons (o := { dst := some 43, op := Op.load 24 (Operand.tmp 42), type := 24, pos := "more.go:22", after := #[{ on := 0, ground := Ground.data }], guard := none }) rfl (fun K hK => ?_) (AllReadyH.cons (o := { dst := some 54, op := Op.buildSlice 24 1 #[(0, Operand.tmp 53)], type := 24, pos := "more.go:22", after := #[{ on := 11, ground := Ground.data }], guard := none }) rfl (fun K hK => ?_) AllReadyH.nil))
            · skip
              go_simp
              refine hK.out _ _ ?_ (fun hI2 => ?_)
              · exact hI1
              clear hK K
              (try simp only [Act.put, List.setIfInBounds_toArray, List.set_cons_zero, List.set_cons_succ])
              refine wpAnyH_ready (rs := [12]) (by kernel_rfl) (by simp) ?_
              refine (AllReadyH.cons (o := { dst := some 54, op := Op.buildSlice 24 1 #[(0, Operand.tmp 53)], type := 24, pos := "more.go:22", after := #[{ on := 11, ground := Ground.data }], guard := none }) rfl (fun K hK => ?_) AllReadyH.nil)
              go_simp
              refine hK.out _ _ ?_ (fun hI3 => ?_)
              · exact ⟨alloc_cell hI2.1, alloc_cell hI2.2.1, alloc_cell hI2.2.2⟩
              clear hK K
              (try simp only [Act.put, List.setIfInBounds_toArray, List.set_cons_zero, List.set_cons_succ])
              refine wpAnyH_ready (rs := [13]) (by kernel_rfl) (by simp) ?_
              refine (AllReadyH.cons (o := { dst := some 55, op := Op.call { callee := Callee.builtin Builtin.append, args := #[Operand.tmp 43, Operand.tmp 54], argTypes := #[24, 24] }, type := 24, pos := "more.go:22", after := #[{ on := 1, ground := Ground.data }, { on := 12, ground := Ground.data }], guard := none }) rfl (fun K hK => ?_) AllReadyH.nil)
              refine step_append_lies _ (by rfl) _ _ _ (by rfl) (TB + 1) 32 i0 zeroSl 4 48 Tryd.underlying24 hi hz0 hz1 hz2 rfl (by decide) (.slice to k tc) k (slsC (slotsD (l.take k) 0)) (by rfl) (((HO.out.alloc _).alloc _).drew) ⟨w5.heap.size + 1, 0, none⟩ 1 1 [.string (chr (97 + (k : Int))), .int .i64 vk, .int .i64 vi, .string vt] (by rfl) (by rfl) (World.news_of_block (cs := #[.string (chr (97 + (k : Int))), .int .i64 vk, .int .i64 vi, .string vt]) (t := 32) (fr := (0, 0)) hnew) (by simp [Value.oneCell']) (by decide) (by unfold maxLen; omega) (by omega) (by simp; omega) (w5.heap.size + 2) (by simp) ?_
              intro gk gcap w3 hown hgrow hat3 hlt3
              have q0 := hgrow.cell ((alloc_cell (alloc_cell c0) : ((w5.alloc (.cells #[.int .u8 (97 + (k : Int))] 5)).alloc (.cells #[.string (chr (97 + (k : Int))), .int .i64 vk, .int .i64 vi, .string vt] 32)).drew.cell? _ = _)) (fun e => by have h9 := (HOb.out _ e.symm).1; simp only at h9; omega)
              have q1 := hgrow.cell ((alloc_cell (alloc_cell c1) : ((w5.alloc (.cells #[.int .u8 (97 + (k : Int))] 5)).alloc (.cells #[.string (chr (97 + (k : Int))), .int .i64 vk, .int .i64 vi, .string vt] 32)).drew.cell? _ = _)) (fun e => by have h9 := (HOb.out _ e.symm).1; simp only at h9; omega)
              have q2 := hgrow.cell ((alloc_cell (alloc_cell c2) : ((w5.alloc (.cells #[.int .u8 (97 + (k : Int))] 5)).alloc (.cells #[.string (chr (97 + (k : Int))), .int .i64 vk, .int .i64 vi, .string vt] 32)).drew.cell? _ = _)) (fun e => by have h9 := (HOb.out _ e.symm).1; simp only at h9; omega)
              have hgb : ∀ j, j < TB + 1 → w3.heap[j]? = w5.heap[j]? := fun j hj => (hgrow.block j (by simp; omega) (fun e => by have := (HOb.out j e.symm).1; omega)).trans (show ((w5.alloc (.cells #[.int .u8 (97 + (k : Int))] 5)).alloc (.cells #[.string (chr (97 + (k : Int))), .int .i64 vk, .int .i64 vi, .string vt] 32)).heap[j]? = w5.heap[j]? from (Below.heap_alloc _ _ _ (by simp; omega)).trans (Below.heap_alloc _ _ _ (by omega)))
              have t3 : w3.cell? ⟨TB, 1, none⟩ = some (.slice to k tc) := (HT5.out.t.keep (hgb _ (by omega))).cell 1
              have tf := (HT5.out.t.keep (hgb _ (by omega))).froz
              refine hK.out _ _ ?_ (fun hI4 => ?_)
              · exact ⟨q0, q1, q2⟩
              clear hK K
              (try simp only [Act.put, List.setIfInBounds_toArray, List.set_cons_zero, List.set_cons_succ])
              refine wpAnyH_take (i := 14) (oi := { dst := some 56, op := Op.fieldAddr 26 (Operand.tmp 7) 1, type := 0, pos := "more.go:22", after := #[{ on := 0, ground := Ground.phase }, { on := 1, ground := Ground.phase }, { on := 2, ground := Ground.phase }, { on := 3, ground := Ground.phase }, { on := 4, ground := Ground.phase }, { on := 5, ground := Ground.phase }, { on := 6, ground := Ground.phase }, { on := 7, ground := Ground.phase }, { on := 8, ground := Ground.phase }, { on := 9, ground := Ground.phase }, { on := 10, ground := Ground.phase }, { on := 11, ground := Ground.phase }, { on := 12, ground := Ground.phase }, { on := 13, ground := Ground.phase }], guard := none }) (v := ?_) rfl (by kernel_rfl) (by kernel_rfl) (by kernel_rfl) (fun _ _ _ h => h) (Or.inl ⟨by rfl, ?hy14⟩) (by assumption) ?_
              case hy14 => (intro w hSw; (try dsimp only at hSw); go_simp; try with_reducible rfl)
              (try simp only [Act.put, List.setIfInBounds_toArray, List.set_cons_zero, List.set_cons_succ])
              refine wpAnyH_ready (rs := [15]) (by kernel_rfl) (by simp) ?_
              refine (AllReadyH.cons (o := { dst := none, op := Op.store 24 (Operand.tmp 56) (Operand.tmp 55), type := 0, pos := "more.go:22", after := #[{ on := 14, ground := Ground.data }, { on := 13, ground := Ground.data }, { on := 13, ground := Ground.chain }, { on := 0, ground := Ground.phase }, { on := 1, ground := Ground.phase }, { on := 2, ground := Ground.phase }, { on := 3, ground := Ground.phase }, { on := 4, ground := Ground.phase }, { on := 5, ground := Ground.phase }, { on := 6, ground := Ground.phase }, { on := 7, ground := Ground.phase }, { on := 8, ground := Ground.phase }, { on := 9, ground := Ground.phase }, { on := 10, ground := Ground.phase }, { on := 11, ground := Ground.phase }, { on := 12, ground := Ground.phase }, { on := 13, ground := Ground.phase }], guard := none }) rfl (fun K hK => ?_) AllReadyH.nil)
              go_simp
              refine hK.out _ _ ?_ (fun hI5 => ?_)
              · exact ⟨(World.cell?_setCell_far _ _ _ _ (by show _ ≠ _; simp only; omega)).trans hI4.1, (World.cell?_setCell_far _ _ _ _ (by show _ ≠ _; simp only; omega)).trans hI4.2.1, (World.cell?_setCell_far _ _ _ _ (by show _ ≠ _; simp only; omega)).trans hI4.2.2⟩
              clear hK K
              (try simp only [Act.put, List.setIfInBounds_toArray, List.set_cons_zero, List.set_cons_succ])
              refine wpAnyH_done (by kernel_rfl) ?_ _
              have hO3 : w3.ownsRow (TB + 1) 32 4 (.slice (some ⟨gk, 0, none⟩) (k + 1) gcap) (k + 1) (slsC (slotsD (l.take (k + 1)) 0)) := by rw [← HKs.out]; exact hown
              have hB3 : Below w.heap.size w w3 := by
                have hs := HT5.out.bel.size
                refine HT5.out.bel.trans (((((Below.refl _ w5).alloc hs _).alloc (by simp; omega) _).drew).grown hgrow (by simp; omega) (fun j hj => ?_))
                have := (HOb.out j hj).1
                omega
              have HN3 : Hid (TdW w (w3.setCell ⟨TB, 1, none⟩ (.slice (some ⟨gk, 0, none⟩) (k + 1) gcap)) TB (.slice (some ⟨gk, 0, none⟩) (k + 1) gcap) (k + 1) (slotsD (l.take (k + 1)) 0)) :=
                ⟨set_bel hB3 (by omega), (HT5.out.t.keep (hgb _ (by omega))).set 1 _, ownsRow_setCell_below hO3 (by show TB < TB + 1; omega) _, HT5.out.lt⟩
              clear hown hgrow hat3 hlt3 q0 q1 q2 hgb t3 tf hO3 hB3 HT5 HO HOb t1 c0 c1 c2 hnew hcv
              go_wp2
              go_roundw
              case rel => exact ⟨k + 1, _, by omega, by go_num, HN3⟩
              case measure => simp [intOf]; omega
            · skip
              go_simp
              refine hK.out _ _ ?_ (fun hI2 => ?_)
              · exact ⟨alloc_cell hI1.1, alloc_cell hI1.2.1, alloc_cell hI1.2.2⟩
              clear hK K
              (try simp only [Act.put, List.setIfInBounds_toArray, List.set_cons_zero, List.set_cons_succ])
              refine wpAnyH_ready (rs := [1]) (by kernel_rfl) (by simp) ?_
              refine (AllReadyH.cons (o := { dst := some 43, op := Op.load 24 (Operand.tmp 42), type := 24, pos := "more.go:22", after := #[{ on := 0, ground := Ground.data }], guard := none }) rfl (fun K hK => ?_) AllReadyH.nil)
              go_simp
              refine hK.out _ _ ?_ (fun hI3 => ?_)
              · exact hI2
              clear hK K
              (try simp only [Act.put, List.setIfInBounds_toArray, List.set_cons_zero, List.set_cons_succ])
              refine wpAnyH_ready (rs := [13]) (by kernel_rfl) (by simp) ?_
              refine (AllReadyH.cons (o := { dst := some 55, op := Op.call { callee := Callee.builtin Builtin.append, args := #[Operand.tmp 43, Operand.tmp 54], argTypes := #[24, 24] }, type := 24, pos := "more.go:22", after := #[{ on := 1, ground := Ground.data }, { on := 12, ground := Ground.data }], guard := none }) rfl (fun K hK => ?_) AllReadyH.nil)
              refine step_append_lies _ (by rfl) _ _ _ (by rfl) (TB + 1) 32 i0 zeroSl 4 48 Tryd.underlying24 hi hz0 hz1 hz2 rfl (by decide) (.slice to k tc) k (slsC (slotsD (l.take k) 0)) (by rfl) (((HO.out.alloc _).alloc _).drew) ⟨w5.heap.size + 1, 0, none⟩ 1 1 [.string (chr (97 + (k : Int))), .int .i64 vk, .int .i64 vi, .string vt] (by rfl) (by rfl) (World.news_of_block (cs := #[.string (chr (97 + (k : Int))), .int .i64 vk, .int .i64 vi, .string vt]) (t := 32) (fr := (0, 0)) hnew) (by simp [Value.oneCell']) (by decide) (by unfold maxLen; omega) (by omega) (by simp; omega) (w5.heap.size + 2) (by simp) ?_
              intro gk gcap w3 hown hgrow hat3 hlt3
              have q0 := hgrow.cell ((alloc_cell (alloc_cell c0) : ((w5.alloc (.cells #[.int .u8 (97 + (k : Int))] 5)).alloc (.cells #[.string (chr (97 + (k : Int))), .int .i64 vk, .int .i64 vi, .string vt] 32)).drew.cell? _ = _)) (fun e => by have h9 := (HOb.out _ e.symm).1; simp only at h9; omega)
              have q1 := hgrow.cell ((alloc_cell (alloc_cell c1) : ((w5.alloc (.cells #[.int .u8 (97 + (k : Int))] 5)).alloc (.cells #[.string (chr (97 + (k : Int))), .int .i64 vk, .int .i64 vi, .string vt] 32)).drew.cell? _ = _)) (fun e => by have h9 := (HOb.out _ e.symm).1; simp only at h9; omega)
              have q2 := hgrow.cell ((alloc_cell (alloc_cell c2) : ((w5.alloc (.cells #[.int .u8 (97 + (k : Int))] 5)).alloc (.cells #[.string (chr (97 + (k : Int))), .int .i64 vk, .int .i64 vi, .string vt] 32)).drew.cell? _ = _)) (fun e => by have h9 := (HOb.out _ e.symm).1; simp only at h9; omega)
              have hgb : ∀ j, j < TB + 1 → w3.heap[j]? = w5.heap[j]? := fun j hj => (hgrow.block j (by simp; omega) (fun e => by have := (HOb.out j e.symm).1; omega)).trans (show ((w5.alloc (.cells #[.int .u8 (97 + (k : Int))] 5)).alloc (.cells #[.string (chr (97 + (k : Int))), .int .i64 vk, .int .i64 vi, .string vt] 32)).heap[j]? = w5.heap[j]? from (Below.heap_alloc _ _ _ (by simp; omega)).trans (Below.heap_alloc _ _ _ (by omega)))
              have t3 : w3.cell? ⟨TB, 1, none⟩ = some (.slice to k tc) := (HT5.out.t.keep (hgb _ (by omega))).cell 1
              have tf := (HT5.out.t.keep (hgb _ (by omega))).froz
              refine hK.out _ _ ?_ (fun hI4 => ?_)
              · exact ⟨q0, q1, q2⟩
              clear hK K
              (try simp only [Act.put, List.setIfInBounds_toArray, List.set_cons_zero, List.set_cons_succ])
              refine wpAnyH_take (i := 14) (oi := { dst := some 56, op := Op.fieldAddr 26 (Operand.tmp 7) 1, type := 0, pos := "more.go:22", after := #[{ on := 0, ground := Ground.phase }, { on := 1, ground := Ground.phase }, { on := 2, ground := Ground.phase }, { on := 3, ground := Ground.phase }, { on := 4, ground := Ground.phase }, { on := 5, ground := Ground.phase }, { on := 6, ground := Ground.phase }, { on := 7, ground := Ground.phase }, { on := 8, ground := Ground.phase }, { on := 9, ground := Ground.phase }, { on := 10, ground := Ground.phase }, { on := 11, ground := Ground.phase }, { on := 12, ground := Ground.phase }, { on := 13, ground := Ground.phase }], guard := none }) (v := ?_) rfl (by kernel_rfl) (by kernel_rfl) (by kernel_rfl) (fun _ _ _ h => h) (Or.inl ⟨by rfl, ?hy14⟩) (by assumption) ?_
              case hy14 => (intro w hSw; (try dsimp only at hSw); go_simp; try with_reducible rfl)
              (try simp only [Act.put, List.setIfInBounds_toArray, List.set_cons_zero, List.set_cons_succ])
              refine wpAnyH_ready (rs := [15]) (by kernel_rfl) (by simp) ?_
              refine (AllReadyH.cons (o := { dst := none, op := Op.store 24 (Operand.tmp 56) (Operand.tmp 55), type := 0, pos := "more.go:22", after := #[{ on := 14, ground := Ground.data }, { on := 13, ground := Ground.data }, { on := 13, ground := Ground.chain }, { on := 0, ground := Ground.phase }, { on := 1, ground := Ground.phase }, { on := 2, ground := Ground.phase }, { on := 3, ground := Ground.phase }, { on := 4, ground := Ground.phase }, { on := 5, ground := Ground.phase }, { on := 6, ground := Ground.phase }, { on := 7, ground := Ground.phase }, { on := 8, ground := Ground.phase }, { on := 9, ground := Ground.phase }, { on := 10, ground := Ground.phase }, { on := 11, ground := Ground.phase }, { on := 12, ground := Ground.phase }, { on := 13, ground := Ground.phase }], guard := none }) rfl (fun K hK => ?_) AllReadyH.nil)
              go_simp
              refine hK.out _ _ ?_ (fun hI5 => ?_)
              · exact ⟨(World.cell?_setCell_far _ _ _ _ (by show _ ≠ _; simp only; omega)).trans hI4.1, (World.cell?_setCell_far _ _ _ _ (by show _ ≠ _; simp only; omega)).trans hI4.2.1, (World.cell?_setCell_far _ _ _ _ (by show _ ≠ _; simp only; omega)).trans hI4.2.2⟩
              clear hK K
              (try simp only [Act.put, List.setIfInBounds_toArray, List.set_cons_zero, List.set_cons_succ])
              refine wpAnyH_done (by kernel_rfl) ?_ _
              have hO3 : w3.ownsRow (TB + 1) 32 4 (.slice (some ⟨gk, 0, none⟩) (k + 1) gcap) (k + 1) (slsC (slotsD (l.take (k + 1)) 0)) := by rw [← HKs.out]; exact hown
              have hB3 : Below w.heap.size w w3 := by
                have hs := HT5.out.bel.size
                refine HT5.out.bel.trans (((((Below.refl _ w5).alloc hs _).alloc (by simp; omega) _).drew).grown hgrow (by simp; omega) (fun j hj => ?_))
                have := (HOb.out j hj).1
                omega
              have HN3 : Hid (TdW w (w3.setCell ⟨TB, 1, none⟩ (.slice (some ⟨gk, 0, none⟩) (k + 1) gcap)) TB (.slice (some ⟨gk, 0, none⟩) (k + 1) gcap) (k + 1) (slotsD (l.take (k + 1)) 0)) :=
                ⟨set_bel hB3 (by omega), (HT5.out.t.keep (hgb _ (by omega))).set 1 _, ownsRow_setCell_below hO3 (by show TB < TB + 1; omega) _, HT5.out.lt⟩
              clear hown hgrow hat3 hlt3 q0 q1 q2 hgb t3 tf hO3 hB3 HT5 HO HOb t1 c0 c1 c2 hnew hcv
              go_wp2
              go_roundw
              case rel => exact ⟨k + 1, _, by omega, by go_num, HN3⟩
              case measure => simp [intOf]; omega
    · have hki : ¬ (k : Int) < (n : Int) := by omega
      obtain rfl : n = k := by omega
      obtain ⟨w2, hw2⟩ : ∃ x, x = wr := ⟨_, rfl⟩
      subst hw2
      rw [List.take_of_length_le (by rw [HL.out]; exact Nat.le_refl _)] at HT
      obtain ⟨to, tc, hv, hsl, _⟩ := own_sls (by rw [slotsD_len, HL.out]) HT.out.own
      subst hv
      have HS2 : Hid (IsSls w2 to (slotsD l 0)) := hsl
      have HB2 : Hid (Below w.heap.size w w2) := HT.out.bel
      have HX2 : Hid (Bx w2 TB #[.string ⟨#[116]⟩, .slice to n tc]) := HT.out.t
      have HI2 : Hid (IsVals w2 ao l) := HI.out.next HT.out.bel
      have hlr : TB < w2.heap.size := HT.out.t.lt
      clear hsl HT
      obtain ⟨M, HM⟩ : ∃ M, Hid (D % (n + 1) = M) := ⟨_, rfl⟩
      have hM : M ≤ n := by have h1 := HM.out; have := Nat.mod_lt D (show 0 < n + 1 by omega); omega
      have hrm : Int.tmod (D : Int) ((n : Int) + 1) = (M : Int) := by
        rw [← HM.out, show ((n : Int) + 1) = ((n + 1 : Nat) : Int) by omega]
        exact Int.ofNat_tmod D (n + 1)
      have hn1 : ¬ (n : Int) + 1 = 0 := by omega
      have hn1b : (((n : Int) + 1) == 0) = false := by simp; omega
      obtain ⟨i0, hi, hz0, hz1, hz2⟩ := infoStr'
      obtain ⟨i1, hi1, hy0, hy1, hy2⟩ := infoVal'
      go_wp2
      go_loopw [10, 11, 12] (fun nv vv q wr => ∃ k : Nat, k ≤ M ∧ q = .int .i64 k ∧ Hid (Below w2.heap.size w2 wr) ∧ Hid (wr.ownsRow w2.heap.size 9 1 nv k (strsC (namesD n T k))) ∧ Hid (wr.ownsRow w2.heap.size 29 3 vv k (valsC (valsD n T k)))) (fun _ _ q _ => M - (intOf q).toNat)
      case atStart => exact ⟨0, Nat.zero_le _, rfl, Below.refl _ _, World.ownsRow_nil _ _ _ _, World.ownsRow_nil _ _ _ _⟩
      case round =>
        obtain ⟨k, hk, rfl, HB, HN, HV⟩ := hrel
        obtain ⟨no, nc, hv⟩ := own_slice HN.out
        subst hv
        obtain ⟨vo, vc, hv⟩ := own_slice HV.out
        subst hv
        by_cases hlt : k < M
        · have hki : (k : Int) < (M : Int) := by omega
          obtain ⟨K, HK⟩ : ∃ K, Hid (kD n T k = K) := ⟨_, rfl⟩
          have hK : K < n := by rw [← HK.out]; exact kD_lt (by omega)
          have hKi : (K : Int) < (n : Int) := by omega
          have hK0 : (0 : Int) ≤ (K : Int) := by omega
          have hrk : Int.tmod ((k : Int) + (T : Int)) (n : Int) = (K : Int) := by
            rw [← HK.out, show ((k : Int) + (T : Int)) = ((k + T : Nat) : Int) by omega]
            exact Int.ofNat_tmod (k + T) n
          have hnz : ¬ (n : Int) = 0 := by omega
          obtain ⟨u, hu⟩ : ∃ u, l[K]? = some u := ⟨_, List.getElem?_eq_getElem (by rw [HL.out]; exact hK)⟩
          have hg := slotsD_get l 0 K u hu
          rw [Nat.zero_add] at hg
          obtain ⟨b, o, rfl, s0, _, _, _⟩ := (HS2.out.next HB.out) K _ hg
          simp only at s0
          have t1 : wr.cell? ⟨TB, 1, none⟩ = some (.slice (some ⟨b, o, none⟩) n tc) := (HX2.out.next HB.out).cell 1
          have HNb : Hid (∀ j, (Value.slice no k nc).ownBlock = some j → w2.heap.size ≤ j ∧ j < wr.heap.size) := fun j hj => HN.out.lt j hj
          have HKn : Hid (strsC (namesD n T k) ++ [.string (anam K)] = strsC (namesD n T (k + 1))) := by rw [Hid, strsC_snoc, namesD_succ, HK.out]
          have HKv : Hid (valsC (valsD n T k) ++ [.int .i64 1, .int .i64 K, .string ⟨#[]⟩] = valsC (valsD n T (k + 1))) := by rw [Hid, valsD_succ, HK.out, ← valsC_snoc]; rfl
          obtain ⟨X, HX⟩ : ∃ X, Hid (anam K = X) := ⟨_, rfl⟩
          rw [HX.out] at s0 HKn
          clear hu hg
          go_wp2_with (at_builtin; refine wpList_append_own _ rfl _ _ 33 rfl w2.heap.size 9 i0 (.string ⟨#[]⟩) 1 16 Tryd.underlying33 hi hz0 hz1 hz2 rfl (by decide) _ _ _ rfl (HN.out.alloc _) ⟨wr.heap.size, 0, none⟩ 1 1 [.string X] rfl rfl ?c1 ?c2 ?c3 ?c4 ?c5 ?_)
          case c2 => rfl
          case c3 => unfold maxLen; omega
          case c4 => omega
          case c5 => have := HB.out.size; simp; omega
          intro nv6 w6 ho hg _
          rw [HKn.out] at ho
          have HN6 : Hid (w6.ownsRow w2.heap.size 9 1 nv6 (k + 1) (strsC (namesD n T (k + 1)))) := ho
          have HV6 : Hid (w6.ownsRow w2.heap.size 29 3 (.slice vo k vc) k (valsC (valsD n T k))) := (HV.out.alloc _).kept hg (own_apart HV.out HN.out (by decide))
          have HB6 : Hid (Below w2.heap.size w2 w6) := by
            have hs := HB.out.size
            refine HB.out.trans (((Below.refl _ wr).alloc hs _).grown hg (by simp; omega) (fun j hj => ?_))
            exact (HNb.out j hj).1
          clear ho hg HN HV HNb s0 t1 HB HKn
          go_wp2_with fail
          refine (rint_any (K : Int) w6).mono ?_
          rintro e w7 ⟨rfl, hb7⟩
          have HN7 : Hid (w7.ownsRow w2.heap.size 9 1 nv6 (k + 1) (strsC (namesD n T (k + 1)))) := own_next HN6.out hb7
          have HV7 : Hid (w7.ownsRow w2.heap.size 29 3 (.slice vo k vc) k (valsC (valsD n T k))) := own_next HV6.out hb7
          have HB7 : Hid (Below w2.heap.size w2 w7) := next_trans HB6.out hb7
          have HVb : Hid (∀ j, (Value.slice vo k vc).ownBlock = some j → w2.heap.size ≤ j ∧ j < w7.heap.size) := fun j hj => HV7.out.lt j hj
          clear hb7 HN6 HV6 HB6
          go_wp2_with (at_builtin; refine wpList_append_own _ rfl _ _ 22 rfl w2.heap.size 29 i1 (.agg #[.int .i64 (0), .int .i64 (0), .string (⟨#[]⟩)]) 3 32 Tryd.underlying22 hi1 hy0 hy1 hy2 rfl (by decide) _ _ _ rfl (HV7.out.alloc _) ⟨w7.heap.size, 0, none⟩ 1 1 [.int .i64 1, .int .i64 K, .string ⟨#[]⟩] rfl rfl ?e1 ?e2 ?e3 ?e4 ?e5 ?_)
          case e1 =>
            intro j u hj
            match j, hj with
            | 0, hj => simp at hj; subst hj; simp [Addr.add]
            | 1, hj => simp at hj; subst hj; simp [Addr.add]
            | 2, hj => simp at hj; subst hj; simp [Addr.add]
          case e2 => intro u hu; simp at hu; rcases hu with rfl | rfl | rfl <;> rfl
          case e3 => unfold maxLen; omega
          case e4 => omega
          case e5 => have := HB7.out.size; simp; omega
          intro vv8 w8 ho hg _
          rw [HKv.out] at ho
          have HV8 : Hid (w8.ownsRow w2.heap.size 29 3 vv8 (k + 1) (valsC (valsD n T (k + 1)))) := ho
          have HN8 : Hid (w8.ownsRow w2.heap.size 9 1 nv6 (k + 1) (strsC (namesD n T (k + 1)))) := (HN7.out.alloc _).kept hg (own_apart HN7.out HV7.out (by decide))
          have HB8 : Hid (Below w2.heap.size w2 w8) := by
            have hs := HB7.out.size
            refine HB7.out.trans (((Below.refl _ w7).alloc hs _).grown hg (by simp; omega) (fun j hj => ?_))
            exact (HVb.out j hj).1
          clear ho hg HN7 HV7 HVb HB7 HKv
          go_wp2
          go_roundw
          case rel => exact ⟨k + 1, by omega, by go_num, HB8, HN8, HV8⟩
          case measure => simp [intOf]; omega
        · have hki : ¬ (k : Int) < (M : Int) := by omega
          obtain rfl : M = k := by omega
          obtain ⟨w4, hw4⟩ : ∃ x, x = wr := ⟨_, rfl⟩
          subst hw4
          obtain ⟨no', nc', hv, hns, _⟩ := own_strs (namesD_len n T M) HN.out
          cases hv
          obtain ⟨vo', vc', hv, hvs, _⟩ := own_vals (valsD_len n T M) HV.out
          cases hv
          have HFl : Hid (Calls Tryd.prog 7 #[.agg #[.string ⟨#[116]⟩, .slice to n tc], .slice no M nc, .slice vo M vc] w4 fun e w' => (∃ oo oc, e = .returned (.tuple #[.slice oo n oc, .int .i64 0]) ∧ IsVals w' oo (setD n T l M)) ∧ Below w4.heap.size w4 w') := by
            have h1 := fill_any ⟨⟨#[116]⟩, slotsD l 0⟩ to tc no vo M M nc vc (namesD n T M) (valsD n T M) w4 (by show (slotsD l 0).length ≤ _; rw [slotsD_len, HL.out]; omega) (namesD_len n T M) (valsD_len n T M) (by omega) (HS2.out.next HB.out) hns hvs
            unfold tmV at h1
            simp only at h1
            rw [slotsD_len, HL.out] at h1
            refine h1.mono ?_
            rintro e w' ⟨hb, hr⟩
            have hfd := fill_D l T M (by rw [HL.out]; omega) (by rw [HL.out]; exact hM)
            rw [HL.out] at hfd
            rcases hr with ⟨out, oo, oc, g1, g2, _, g4⟩ | ⟨f, g1, _⟩
            · rw [hfd] at g1
              injection g1 with g1
              subst g1
              rw [setD_len, HL.out] at g2
              exact ⟨⟨oo, oc, g2, g4⟩, hb⟩
            · rw [hfd] at g1; cases g1
          have t0 : w4.cell? ⟨TB, 0, none⟩ = some (.string ⟨#[116]⟩) := (HX2.out.next HB.out).cell 0
          have t1 : w4.cell? ⟨TB, 1, none⟩ = some (.slice to n tc) := (HX2.out.next HB.out).cell 1
          have hnn : ((n : Int) != (n : Int)) = false := by simp
          clear hns hvs HN HV
          go_wp2_with fail
          refine HFl.out.mono ?_
          rintro e w5 ⟨⟨oo, oc, rfl, hv5⟩, hb5⟩
          have HB5 : Hid (Below w.heap.size w w5) := next_trans HB2.out (next_trans HB.out hb5)
          have HV5 : Hid (IsVals w5 oo (setD n T l M)) := hv5
          have HI5 : Hid (IsVals w5 ao l) := (HI2.out.next HB.out).next hb5
          clear hb5 hv5 HFl t0 t1 HB HX2 HS2 HI2
          go_wp2
          go_loopw [16] (fun q wr => ∃ j : Nat, j ≤ n ∧ q = .int .i64 j ∧ Hid (Below w5.heap.size w5 wr)) (fun q _ => n - (intOf q).toNat)
          case atStart => exact ⟨0, Nat.zero_le _, rfl, Below.refl _ _⟩
          case round =>
            obtain ⟨j, hj, rfl, HBr⟩ := hrel
            by_cases hlj : j < n
            · have hji : (j : Int) < (n : Int) := by omega
              have hj0 : (0 : Int) ≤ (j : Int) := by omega
              have hnz : ¬ (n : Int) = 0 := by omega
              go_wp2
              go_loop [17, 18] (fun s q => ∃ (k : Nat) (B : Bool), k ≤ M ∧ q = .int .i64 k ∧ s = .bool B ∧ Hid (namedD n T k j = B)) (fun _ q => M - (intOf q).toNat)
              case atStart => exact ⟨0, false, Nat.zero_le _, rfl, rfl, rfl⟩
              case round =>
                obtain ⟨k, B, hk, rfl, rfl, HNd⟩ := hrel
                by_cases hlk : k < M
                · have hki : (k : Int) < (M : Int) := by omega
                  cases B with
                  | true =>
                    go_wp2
                    go_round
                    case rel => exact ⟨k + 1, true, by omega, by go_num, rfl, by rw [Hid, namedD_succ, HNd.out]; rfl⟩
                    case measure => simp [intOf]; omega
                  | false =>
                    obtain ⟨K, HK⟩ : ∃ K, Hid (kD n T k = K) := ⟨_, rfl⟩
                    have hrk : Int.tmod ((k : Int) + (T : Int)) (n : Int) = (K : Int) := by
                      rw [← HK.out, show ((k : Int) + (T : Int)) = ((k + T : Nat) : Int) by omega]
                      exact Int.ofNat_tmod (k + T) n
                    by_cases hKj : K = j
                    · have hkb : ((K : Int) == (j : Int)) = true := by simp; omega
                      go_wp2
                      go_round
                      case rel => exact ⟨k + 1, true, by omega, by go_num, rfl, by rw [Hid, namedD_succ, HK.out, HNd.out, hKj]; simp⟩
                      case measure => simp [intOf]; omega
                    · have hkb : ((K : Int) == (j : Int)) = false := by simp; omega
                      go_wp2
                      go_round
                      case rel => exact ⟨k + 1, false, by omega, by go_num, rfl, by rw [Hid, namedD_succ, HK.out, HNd.out]; simp [hKj]⟩
                      case measure => simp [intOf]; omega
                · have hki : ¬ (k : Int) < (M : Int) := by omega
                  obtain rfl : M = k := by omega
                  have hso := setD_get l T M j (by rw [HL.out]; exact hlj)
                  rw [HL.out, HNd.out] at hso
                  obtain ⟨u, hu⟩ : ∃ u, l[j]? = some u := ⟨_, List.getElem?_eq_getElem (by rw [HL.out]; exact hlj)⟩
                  cases B with
                  | true =>
                    rw [if_pos rfl] at hso
                    obtain ⟨b, o, rfl, c0, c1, c2⟩ := (HV5.out.next HBr.out) j _ hso
                    unfold iV at c0 c1 c2
                    simp only at c0 c1 c2
                    have HSm : Hid (∀ w', Calls Tryd.prog 8 #[.agg #[.int .i64 (1), .int .i64 ((j : Int)), .string (⟨#[]⟩)], .agg #[.int .i64 (1), .int .i64 ((j : Int)), .string (⟨#[]⟩)]] w' fun e w2 => e = .returned (.bool true) ∧ Below w'.heap.size w' w2) := by
                      intro w'; rw [← sameB_refl 1 (j : Int) ⟨#[]⟩]; exact rsame_any _ _ _ _ _ _ w'
                    clear hso hu HNd
                    go_wp2
                    refine wp_region_held_drew (S := (fun w' => w'.cell? ⟨b, o + j * 3, none⟩ = some (.int .i64 1) ∧ w'.cell? ⟨b, o + j * 3 + 1, none⟩ = some (.int .i64 j) ∧ w'.cell? ⟨b, o + j * 3 + 2, none⟩ = some (.string ⟨#[]⟩) ∧ Below wr.heap.size wr w' ∧ wr.heap.size ≤ w'.heap.size)) (by kernel_rfl) ?_ (fun hHeldT => ?_)
                    · exact ⟨c0, c1, c2, (Below.refl _ _).drew, Nat.le_refl _⟩
                    refine wpAnyH_take (i := 0) (oi := { dst := some 128, op := Op.move (Operand.tmp 17), type := 4, pos := "more.go:41", after := #[], guard := none }) (v := ?_) rfl (by kernel_rfl) (by kernel_rfl) (by kernel_rfl) (fun _ _ _ h => h) (Or.inl ⟨by rfl, ?hyT0⟩) (by assumption) ?_
                    case hyT0 => (intro w hSw; (try dsimp only at hSw); go_simp; try with_reducible rfl)
                    (try simp only [Act.put, List.setIfInBounds_toArray, List.set_cons_zero, List.set_cons_succ])
                    refine wpAnyH_take (i := 1) (oi := { dst := some 129, op := Op.move (Operand.tmp 128), type := 4, pos := "more.go:41", after := #[{ on := 0, ground := Ground.data }], guard := none }) (v := ?_) rfl (by kernel_rfl) (by kernel_rfl) (by kernel_rfl) (fun _ _ _ h => h) (Or.inl ⟨by rfl, ?hyT1⟩) (by assumption) ?_
                    case hyT1 => (intro w hSw; (try dsimp only at hSw); go_simp; try with_reducible rfl)
                    (try simp only [Act.put, List.setIfInBounds_toArray, List.set_cons_zero, List.set_cons_succ])
                    refine wpAnyH_take (i := 2) (oi := { dst := some 130, op := Op.move (Operand.tmp 14), type := 22, pos := "more.go:41", after := #[{ on := 1, ground := Ground.guard }], guard := some (1, true) }) (v := ?_) rfl (by kernel_rfl) (by kernel_rfl) (by kernel_rfl) (fun _ _ _ h => h) (Or.inl ⟨by rfl, ?hyT2⟩) (by assumption) ?_
                    case hyT2 => (intro w hSw; (try dsimp only at hSw); go_simp; try with_reducible rfl)
                    (try simp only [Act.put, List.setIfInBounds_toArray, List.set_cons_zero, List.set_cons_succ])
                    refine wpAnyH_take (i := 3) (oi := { dst := some 131, op := Op.move (Operand.tmp 16), type := 3, pos := "more.go:41", after := #[{ on := 1, ground := Ground.guard }], guard := some (1, true) }) (v := ?_) rfl (by kernel_rfl) (by kernel_rfl) (by kernel_rfl) (fun _ _ _ h => h) (Or.inl ⟨by rfl, ?hyT3⟩) (by assumption) ?_
                    case hyT3 => (intro w hSw; (try dsimp only at hSw); go_simp; try with_reducible rfl)
                    (try simp only [Act.put, List.setIfInBounds_toArray, List.set_cons_zero, List.set_cons_succ])
                    refine wpAnyH_take (i := 4) (oi := { dst := some 132, op := Op.indexAddr 22 (Operand.tmp 130) (Operand.tmp 131), type := 0, pos := "more.go:41", after := #[{ on := 2, ground := Ground.data }, { on := 3, ground := Ground.data }, { on := 1, ground := Ground.guard }], guard := some (1, true) }) (v := ?_) rfl (by kernel_rfl) (by kernel_rfl) (by kernel_rfl) (fun _ _ _ h => h) (Or.inl ⟨by rfl, ?hyT4⟩) (by assumption) ?_
                    case hyT4 => (intro w hSw; (try dsimp only at hSw); go_simp; try with_reducible rfl)
                    (try simp only [Act.put, List.setIfInBounds_toArray, List.set_cons_zero, List.set_cons_succ])
                    refine wpAnyH_take (i := 5) (oi := { dst := some 133, op := Op.load 29 (Operand.tmp 132), type := 29, pos := "more.go:41", after := #[{ on := 4, ground := Ground.data }, { on := 1, ground := Ground.guard }], guard := some (1, true) }) (v := ?_) rfl (by kernel_rfl) (by kernel_rfl) (by kernel_rfl) (fun _ _ _ h => h) (Or.inl ⟨by rfl, ?hyT5⟩) (by assumption) ?_
                    case hyT5 => (intro w hSw; (try dsimp only at hSw); go_simp; try with_reducible rfl)
                    (try simp only [Act.put, List.setIfInBounds_toArray, List.set_cons_zero, List.set_cons_succ])
                    refine wpAnyH_take (i := 6) (oi := { dst := some 134, op := Op.move (Operand.tmp 16), type := 3, pos := "more.go:41", after := #[{ on := 1, ground := Ground.guard }], guard := some (1, true) }) (v := ?_) rfl (by kernel_rfl) (by kernel_rfl) (by kernel_rfl) (fun _ _ _ h => h) (Or.inl ⟨by rfl, ?hyT6⟩) (by assumption) ?_
                    case hyT6 => (intro w hSw; (try dsimp only at hSw); go_simp; try with_reducible rfl)
                    (try simp only [Act.put, List.setIfInBounds_toArray, List.set_cons_zero, List.set_cons_succ])
                    refine wpAnyH_ready (rs := [7]) (by kernel_rfl) (by simp) ?_
                    refine AllReadyH.cons (o := { dst := some 135, op := Op.call { callee := Callee.value (Operand.func 6), args := #[Operand.tmp 134], argTypes := #[2] }, type := 29, pos := "more.go:41", after := #[{ on := 6, ground := Ground.data }, { on := 1, ground := Ground.chain }, { on := 1, ground := Ground.guard }], guard := some (1, true) }) rfl (fun K hK => ?_) AllReadyH.nil
                    go_simp
                    with_reducible refine (rint_any _ _).mono ?_
                    rintro e w' ⟨rfl, hb⟩
                    refine hK.out _ _ ?_ (fun hHeldTx => ?_)
                    · obtain ⟨q0, q1, q2, q3, q4⟩ := hHeldT
                      exact ⟨keep_cell hb q0, keep_cell hb q1, keep_cell hb q2, below_next q3 hb q4, le_next q4 hb⟩
                    clear hK K hb hHeldT
                    (try simp only [Act.put, List.setIfInBounds_toArray, List.set_cons_zero, List.set_cons_succ])
                    refine wpAnyH_ready (rs := [8]) (by kernel_rfl) (by simp) ?_
                    refine AllReadyH.cons (o := { dst := some 136, op := Op.call { callee := Callee.value (Operand.func 8), args := #[Operand.tmp 133, Operand.tmp 135], argTypes := #[29, 29] }, type := 4, pos := "more.go:41", after := #[{ on := 5, ground := Ground.data }, { on := 7, ground := Ground.data }, { on := 7, ground := Ground.chain }, { on := 1, ground := Ground.guard }], guard := some (1, true) }) rfl (fun K hK => ?_) AllReadyH.nil
                    go_simp
                    with_reducible refine (HSm.out _).mono ?_
                    rintro e w' ⟨rfl, hb⟩
                    refine hK.out _ _ ?_ (fun hHeldTxx => ?_)
                    · obtain ⟨q0, q1, q2, q3, q4⟩ := hHeldTx
                      exact ⟨keep_cell hb q0, keep_cell hb q1, keep_cell hb q2, below_next q3 hb q4, le_next q4 hb⟩
                    clear hK K hb hHeldTx
                    (try simp only [Act.put, List.setIfInBounds_toArray, List.set_cons_zero, List.set_cons_succ])
                    refine wpAnyH_take (i := 9) (oi := { dst := some 137, op := Op.unOp UnOp.not 4 (Operand.tmp 136), type := 4, pos := "more.go:41", after := #[{ on := 8, ground := Ground.data }, { on := 1, ground := Ground.guard }], guard := some (1, true) }) (v := ?_) rfl (by kernel_rfl) (by kernel_rfl) (by kernel_rfl) (fun _ _ _ h => h) (Or.inl ⟨by rfl, ?hyT9⟩) (by assumption) ?_
                    case hyT9 => (intro w hSw; (try dsimp only at hSw); go_simp; try with_reducible rfl)
                    (try simp only [Act.put, List.setIfInBounds_toArray, List.set_cons_zero, List.set_cons_succ])
                    refine wpAnyH_take (i := 10) (oi := { dst := some 138, op := Op.pick (Operand.tmp 129) (Operand.tmp 137) (Operand.const (Value.bool false)), type := 4, pos := "more.go:41", after := #[{ on := 1, ground := Ground.data }, { on := 9, ground := Ground.data }], guard := none }) (v := ?_) rfl (by kernel_rfl) (by kernel_rfl) (by kernel_rfl) (fun _ _ _ h => h) (Or.inl ⟨by rfl, ?hyT10⟩) (by assumption) ?_
                    case hyT10 => (intro w hSw; (try dsimp only at hSw); go_simp; try with_reducible rfl)
                    (try simp only [Act.put, List.setIfInBounds_toArray, List.set_cons_zero, List.set_cons_succ])
                    refine wpAnyH_take (i := 11) (oi := { dst := some 139, op := Op.move (Operand.tmp 138), type := 4, pos := "more.go:41", after := #[{ on := 10, ground := Ground.data }, { on := 8, ground := Ground.chain }], guard := none }) (v := ?_) rfl (by kernel_rfl) (by kernel_rfl) (by kernel_rfl) (fun _ _ _ h => h) (Or.inl ⟨by rfl, ?hyT11⟩) (by assumption) ?_
                    case hyT11 => (intro w hSw; (try dsimp only at hSw); go_simp; try with_reducible rfl)
                    (try simp only [Act.put, List.setIfInBounds_toArray, List.set_cons_zero, List.set_cons_succ])
                    refine wpAnyH_take (i := 12) (oi := { dst := some 140, op := Op.move (Operand.tmp 17), type := 4, pos := "more.go:41", after := #[{ on := 11, ground := Ground.guard }], guard := some (11, false) }) (v := ?_) rfl (by kernel_rfl) (by kernel_rfl) (by kernel_rfl) (fun _ _ _ h => h) (Or.inl ⟨by rfl, ?hyT12⟩) (by assumption) ?_
                    case hyT12 => (intro w hSw; (try dsimp only at hSw); go_simp; try with_reducible rfl)
                    (try simp only [Act.put, List.setIfInBounds_toArray, List.set_cons_zero, List.set_cons_succ])
                    refine wpAnyH_take (i := 13) (oi := { dst := some 141, op := Op.unOp UnOp.not 4 (Operand.tmp 140), type := 4, pos := "more.go:41", after := #[{ on := 12, ground := Ground.data }, { on := 11, ground := Ground.guard }], guard := some (11, false) }) (v := ?_) rfl (by kernel_rfl) (by kernel_rfl) (by kernel_rfl) (fun _ _ _ h => h) (Or.inl ⟨by rfl, ?hyT13⟩) (by assumption) ?_
                    case hyT13 => (intro w hSw; (try dsimp only at hSw); go_simp; try with_reducible rfl)
                    (try simp only [Act.put, List.setIfInBounds_toArray, List.set_cons_zero, List.set_cons_succ])
                    refine wpAnyH_take (i := 14) (oi := { dst := some 142, op := Op.move (Operand.tmp 141), type := 4, pos := "more.go:41", after := #[{ on := 13, ground := Ground.data }, { on := 11, ground := Ground.chain }, { on := 11, ground := Ground.guard }], guard := some (11, false) }) (v := ?_) rfl (by kernel_rfl) (by kernel_rfl) (by kernel_rfl) (fun _ _ _ h => h) (Or.inl ⟨by rfl, ?hyT14⟩) (by assumption) ?_
                    case hyT14 => (intro w hSw; (try dsimp only at hSw); go_simp; try with_reducible rfl)
                    (try simp only [Act.put, List.setIfInBounds_toArray, List.set_cons_zero, List.set_cons_succ])
                    refine wpAnyH_take (i := 15) (oi := { dst := some 143, op := Op.move (Operand.tmp 14), type := 22, pos := "more.go:41", after := #[{ on := 14, ground := Ground.guard }], guard := some (14, true) }) (v := undef) rfl (by kernel_rfl) (by kernel_rfl) (by kernel_rfl) (fun _ _ _ h => h) (Or.inr ⟨by rfl, rfl⟩) (by assumption) ?_
                    (try simp only [Act.put, List.setIfInBounds_toArray, List.set_cons_zero, List.set_cons_succ])
                    refine wpAnyH_take (i := 16) (oi := { dst := some 144, op := Op.move (Operand.tmp 16), type := 3, pos := "more.go:41", after := #[{ on := 14, ground := Ground.guard }], guard := some (14, true) }) (v := undef) rfl (by kernel_rfl) (by kernel_rfl) (by kernel_rfl) (fun _ _ _ h => h) (Or.inr ⟨by rfl, rfl⟩) (by assumption) ?_
                    (try simp only [Act.put, List.setIfInBounds_toArray, List.set_cons_zero, List.set_cons_succ])
                    refine wpAnyH_take (i := 17) (oi := { dst := some 145, op := Op.indexAddr 22 (Operand.tmp 143) (Operand.tmp 144), type := 0, pos := "more.go:41", after := #[{ on := 15, ground := Ground.data }, { on := 16, ground := Ground.data }, { on := 14, ground := Ground.guard }], guard := some (14, true) }) (v := undef) rfl (by kernel_rfl) (by kernel_rfl) (by kernel_rfl) (fun _ _ _ h => h) (Or.inr ⟨by rfl, rfl⟩) (by assumption) ?_
                    (try simp only [Act.put, List.setIfInBounds_toArray, List.set_cons_zero, List.set_cons_succ])
                    refine wpAnyH_take (i := 18) (oi := { dst := some 146, op := Op.load 29 (Operand.tmp 145), type := 29, pos := "more.go:41", after := #[{ on := 17, ground := Ground.data }, { on := 14, ground := Ground.guard }], guard := some (14, true) }) (v := undef) rfl (by kernel_rfl) (by kernel_rfl) (by kernel_rfl) (fun _ _ _ h => h) (Or.inr ⟨by rfl, rfl⟩) (by assumption) ?_
                    (try simp only [Act.put, List.setIfInBounds_toArray, List.set_cons_zero, List.set_cons_succ])
                    refine wpAnyH_take (i := 19) (oi := { dst := some 147, op := Op.move (Operand.tmp 0), type := 22, pos := "more.go:41", after := #[{ on := 14, ground := Ground.guard }], guard := some (14, true) }) (v := undef) rfl (by kernel_rfl) (by kernel_rfl) (by kernel_rfl) (fun _ _ _ h => h) (Or.inr ⟨by rfl, rfl⟩) (by assumption) ?_
                    (try simp only [Act.put, List.setIfInBounds_toArray, List.set_cons_zero, List.set_cons_succ])
                    refine wpAnyH_take (i := 20) (oi := { dst := some 148, op := Op.move (Operand.tmp 16), type := 3, pos := "more.go:41", after := #[{ on := 14, ground := Ground.guard }], guard := some (14, true) }) (v := undef) rfl (by kernel_rfl) (by kernel_rfl) (by kernel_rfl) (fun _ _ _ h => h) (Or.inr ⟨by rfl, rfl⟩) (by assumption) ?_
                    (try simp only [Act.put, List.setIfInBounds_toArray, List.set_cons_zero, List.set_cons_succ])
                    refine wpAnyH_take (i := 21) (oi := { dst := some 149, op := Op.indexAddr 22 (Operand.tmp 147) (Operand.tmp 148), type := 0, pos := "more.go:41", after := #[{ on := 19, ground := Ground.data }, { on := 20, ground := Ground.data }, { on := 14, ground := Ground.guard }], guard := some (14, true) }) (v := undef) rfl (by kernel_rfl) (by kernel_rfl) (by kernel_rfl) (fun _ _ _ h => h) (Or.inr ⟨by rfl, rfl⟩) (by assumption) ?_
                    (try simp only [Act.put, List.setIfInBounds_toArray, List.set_cons_zero, List.set_cons_succ])
                    refine wpAnyH_take (i := 22) (oi := { dst := some 150, op := Op.load 29 (Operand.tmp 149), type := 29, pos := "more.go:41", after := #[{ on := 21, ground := Ground.data }, { on := 14, ground := Ground.guard }], guard := some (14, true) }) (v := undef) rfl (by kernel_rfl) (by kernel_rfl) (by kernel_rfl) (fun _ _ _ h => h) (Or.inr ⟨by rfl, rfl⟩) (by assumption) ?_
                    (try simp only [Act.put, List.setIfInBounds_toArray, List.set_cons_zero, List.set_cons_succ])
                    refine wpAnyH_take (i := 23) (oi := { dst := some 151, op := Op.call { callee := Callee.value (Operand.func 8), args := #[Operand.tmp 146, Operand.tmp 150], argTypes := #[29, 29] }, type := 4, pos := "more.go:41", after := #[{ on := 18, ground := Ground.data }, { on := 22, ground := Ground.data }, { on := 14, ground := Ground.chain }, { on := 14, ground := Ground.guard }], guard := some (14, true) }) (v := undef) rfl (by kernel_rfl) (by kernel_rfl) (by kernel_rfl) (fun _ _ _ h => h) (Or.inr ⟨by rfl, rfl⟩) (by assumption) ?_
                    (try simp only [Act.put, List.setIfInBounds_toArray, List.set_cons_zero, List.set_cons_succ])
                    refine wpAnyH_take (i := 24) (oi := { dst := some 152, op := Op.unOp UnOp.not 4 (Operand.tmp 151), type := 4, pos := "more.go:41", after := #[{ on := 23, ground := Ground.data }, { on := 14, ground := Ground.guard }], guard := some (14, true) }) (v := undef) rfl (by kernel_rfl) (by kernel_rfl) (by kernel_rfl) (fun _ _ _ h => h) (Or.inr ⟨by rfl, rfl⟩) (by assumption) ?_
                    (try simp only [Act.put, List.setIfInBounds_toArray, List.set_cons_zero, List.set_cons_succ])
                    refine wpAnyH_take (i := 25) (oi := { dst := some 153, op := Op.pick (Operand.tmp 142) (Operand.tmp 152) (Operand.const (Value.bool false)), type := 4, pos := "more.go:41", after := #[{ on := 14, ground := Ground.data }, { on := 24, ground := Ground.data }, { on := 11, ground := Ground.guard }], guard := some (11, false) }) (v := ?_) rfl (by kernel_rfl) (by kernel_rfl) (by kernel_rfl) (fun _ _ _ h => h) (Or.inl ⟨by rfl, ?hyT25⟩) (by assumption) ?_
                    case hyT25 => (intro w hSw; (try dsimp only at hSw); go_simp; try with_reducible rfl)
                    (try simp only [Act.put, List.setIfInBounds_toArray, List.set_cons_zero, List.set_cons_succ])
                    refine wpAnyH_take (i := 26) (oi := { dst := some 154, op := Op.pick (Operand.tmp 139) (Operand.const (Value.bool true)) (Operand.tmp 153), type := 4, pos := "more.go:41", after := #[{ on := 11, ground := Ground.data }, { on := 25, ground := Ground.data }], guard := none }) (v := ?_) rfl (by kernel_rfl) (by kernel_rfl) (by kernel_rfl) (fun _ _ _ h => h) (Or.inl ⟨by rfl, ?hyT26⟩) (by assumption) ?_
                    case hyT26 => (intro w hSw; (try dsimp only at hSw); go_simp; try with_reducible rfl)
                    (try simp only [Act.put, List.setIfInBounds_toArray, List.set_cons_zero, List.set_cons_succ])
                    refine wpAnyH_done (by kernel_rfl) ?_ _
                    obtain ⟨_, _, _, qb3, qb4⟩ := hHeldTxx
                    have HBe : Hid (Below w5.heap.size w5 _) := next_trans HBr.out qb3
                    go_wp2
                    go_roundw
                    case rel => exact ⟨j + 1, by omega, by go_num, HBe⟩
                    case measure => simp [intOf]; omega
                  | false =>
                    rw [if_neg (by decide), hu] at hso
                    obtain ⟨b, o, rfl, c0, c1, c2⟩ := (HV5.out.next HBr.out) j _ hso
                    obtain ⟨b2, o2, rfl, d0, d1, d2⟩ := (HI5.out.next HBr.out) j _ hu
                    obtain ⟨vk, vi, vt⟩ := u
                    simp only at c0 c1 c2 d0 d1 d2
                    have HSm : Hid (∀ w', Calls Tryd.prog 8 #[.agg #[.int .i64 (vk), .int .i64 (vi), .string (vt)], .agg #[.int .i64 (vk), .int .i64 (vi), .string (vt)]] w' fun e w2 => e = .returned (.bool true) ∧ Below w'.heap.size w' w2) := by
                      intro w'; rw [← sameB_refl vk vi vt]; exact rsame_any _ _ _ _ _ _ w'
                    clear hso hu HNd
                    go_wp2
                    refine wp_region_held_drew (S := (fun w' => w'.cell? ⟨b, o + j * 3, none⟩ = some (.int .i64 vk) ∧ w'.cell? ⟨b, o + j * 3 + 1, none⟩ = some (.int .i64 vi) ∧ w'.cell? ⟨b, o + j * 3 + 2, none⟩ = some (.string vt) ∧ w'.cell? ⟨b2, o2 + j * 3, none⟩ = some (.int .i64 vk) ∧ w'.cell? ⟨b2, o2 + j * 3 + 1, none⟩ = some (.int .i64 vi) ∧ w'.cell? ⟨b2, o2 + j * 3 + 2, none⟩ = some (.string vt) ∧ Below wr.heap.size wr w' ∧ wr.heap.size ≤ w'.heap.size)) (by kernel_rfl) ?_ (fun hHeldF => ?_)
                    · exact ⟨c0, c1, c2, d0, d1, d2, (Below.refl _ _).drew, Nat.le_refl _⟩
                    refine wpAnyH_take (i := 0) (oi := { dst := some 128, op := Op.move (Operand.tmp 17), type := 4, pos := "more.go:41", after := #[], guard := none }) (v := ?_) rfl (by kernel_rfl) (by kernel_rfl) (by kernel_rfl) (fun _ _ _ h => h) (Or.inl ⟨by rfl, ?hyF0⟩) (by assumption) ?_
                    case hyF0 => (intro w hSw; (try dsimp only at hSw); go_simp; try with_reducible rfl)
                    (try simp only [Act.put, List.setIfInBounds_toArray, List.set_cons_zero, List.set_cons_succ])
                    refine wpAnyH_take (i := 1) (oi := { dst := some 129, op := Op.move (Operand.tmp 128), type := 4, pos := "more.go:41", after := #[{ on := 0, ground := Ground.data }], guard := none }) (v := ?_) rfl (by kernel_rfl) (by kernel_rfl) (by kernel_rfl) (fun _ _ _ h => h) (Or.inl ⟨by rfl, ?hyF1⟩) (by assumption) ?_
                    case hyF1 => (intro w hSw; (try dsimp only at hSw); go_simp; try with_reducible rfl)
                    (try simp only [Act.put, List.setIfInBounds_toArray, List.set_cons_zero, List.set_cons_succ])
                    refine wpAnyH_take (i := 2) (oi := { dst := some 130, op := Op.move (Operand.tmp 14), type := 22, pos := "more.go:41", after := #[{ on := 1, ground := Ground.guard }], guard := some (1, true) }) (v := undef) rfl (by kernel_rfl) (by kernel_rfl) (by kernel_rfl) (fun _ _ _ h => h) (Or.inr ⟨by rfl, rfl⟩) (by assumption) ?_
                    (try simp only [Act.put, List.setIfInBounds_toArray, List.set_cons_zero, List.set_cons_succ])
                    refine wpAnyH_take (i := 3) (oi := { dst := some 131, op := Op.move (Operand.tmp 16), type := 3, pos := "more.go:41", after := #[{ on := 1, ground := Ground.guard }], guard := some (1, true) }) (v := undef) rfl (by kernel_rfl) (by kernel_rfl) (by kernel_rfl) (fun _ _ _ h => h) (Or.inr ⟨by rfl, rfl⟩) (by assumption) ?_
                    (try simp only [Act.put, List.setIfInBounds_toArray, List.set_cons_zero, List.set_cons_succ])
                    refine wpAnyH_take (i := 4) (oi := { dst := some 132, op := Op.indexAddr 22 (Operand.tmp 130) (Operand.tmp 131), type := 0, pos := "more.go:41", after := #[{ on := 2, ground := Ground.data }, { on := 3, ground := Ground.data }, { on := 1, ground := Ground.guard }], guard := some (1, true) }) (v := undef) rfl (by kernel_rfl) (by kernel_rfl) (by kernel_rfl) (fun _ _ _ h => h) (Or.inr ⟨by rfl, rfl⟩) (by assumption) ?_
                    (try simp only [Act.put, List.setIfInBounds_toArray, List.set_cons_zero, List.set_cons_succ])
                    refine wpAnyH_take (i := 5) (oi := { dst := some 133, op := Op.load 29 (Operand.tmp 132), type := 29, pos := "more.go:41", after := #[{ on := 4, ground := Ground.data }, { on := 1, ground := Ground.guard }], guard := some (1, true) }) (v := undef) rfl (by kernel_rfl) (by kernel_rfl) (by kernel_rfl) (fun _ _ _ h => h) (Or.inr ⟨by rfl, rfl⟩) (by assumption) ?_
                    (try simp only [Act.put, List.setIfInBounds_toArray, List.set_cons_zero, List.set_cons_succ])
                    refine wpAnyH_take (i := 6) (oi := { dst := some 134, op := Op.move (Operand.tmp 16), type := 3, pos := "more.go:41", after := #[{ on := 1, ground := Ground.guard }], guard := some (1, true) }) (v := undef) rfl (by kernel_rfl) (by kernel_rfl) (by kernel_rfl) (fun _ _ _ h => h) (Or.inr ⟨by rfl, rfl⟩) (by assumption) ?_
                    (try simp only [Act.put, List.setIfInBounds_toArray, List.set_cons_zero, List.set_cons_succ])
                    refine wpAnyH_take (i := 7) (oi := { dst := some 135, op := Op.call { callee := Callee.value (Operand.func 6), args := #[Operand.tmp 134], argTypes := #[2] }, type := 29, pos := "more.go:41", after := #[{ on := 6, ground := Ground.data }, { on := 1, ground := Ground.chain }, { on := 1, ground := Ground.guard }], guard := some (1, true) }) (v := undef) rfl (by kernel_rfl) (by kernel_rfl) (by kernel_rfl) (fun _ _ _ h => h) (Or.inr ⟨by rfl, rfl⟩) (by assumption) ?_
                    (try simp only [Act.put, List.setIfInBounds_toArray, List.set_cons_zero, List.set_cons_succ])
                    refine wpAnyH_take (i := 8) (oi := { dst := some 136, op := Op.call { callee := Callee.value (Operand.func 8), args := #[Operand.tmp 133, Operand.tmp 135], argTypes := #[29, 29] }, type := 4, pos := "more.go:41", after := #[{ on := 5, ground := Ground.data }, { on := 7, ground := Ground.data }, { on := 7, ground := Ground.chain }, { on := 1, ground := Ground.guard }], guard := some (1, true) }) (v := undef) rfl (by kernel_rfl) (by kernel_rfl) (by kernel_rfl) (fun _ _ _ h => h) (Or.inr ⟨by rfl, rfl⟩) (by assumption) ?_
                    (try simp only [Act.put, List.setIfInBounds_toArray, List.set_cons_zero, List.set_cons_succ])
                    refine wpAnyH_take (i := 9) (oi := { dst := some 137, op := Op.unOp UnOp.not 4 (Operand.tmp 136), type := 4, pos := "more.go:41", after := #[{ on := 8, ground := Ground.data }, { on := 1, ground := Ground.guard }], guard := some (1, true) }) (v := undef) rfl (by kernel_rfl) (by kernel_rfl) (by kernel_rfl) (fun _ _ _ h => h) (Or.inr ⟨by rfl, rfl⟩) (by assumption) ?_
                    (try simp only [Act.put, List.setIfInBounds_toArray, List.set_cons_zero, List.set_cons_succ])
                    refine wpAnyH_take (i := 10) (oi := { dst := some 138, op := Op.pick (Operand.tmp 129) (Operand.tmp 137) (Operand.const (Value.bool false)), type := 4, pos := "more.go:41", after := #[{ on := 1, ground := Ground.data }, { on := 9, ground := Ground.data }], guard := none }) (v := ?_) rfl (by kernel_rfl) (by kernel_rfl) (by kernel_rfl) (fun _ _ _ h => h) (Or.inl ⟨by rfl, ?hyF10⟩) (by assumption) ?_
                    case hyF10 => (intro w hSw; (try dsimp only at hSw); go_simp; try with_reducible rfl)
                    (try simp only [Act.put, List.setIfInBounds_toArray, List.set_cons_zero, List.set_cons_succ])
                    refine wpAnyH_take (i := 11) (oi := { dst := some 139, op := Op.move (Operand.tmp 138), type := 4, pos := "more.go:41", after := #[{ on := 10, ground := Ground.data }, { on := 8, ground := Ground.chain }], guard := none }) (v := ?_) rfl (by kernel_rfl) (by kernel_rfl) (by kernel_rfl) (fun _ _ _ h => h) (Or.inl ⟨by rfl, ?hyF11⟩) (by assumption) ?_
                    case hyF11 => (intro w hSw; (try dsimp only at hSw); go_simp; try with_reducible rfl)
                    (try simp only [Act.put, List.setIfInBounds_toArray, List.set_cons_zero, List.set_cons_succ])
                    refine wpAnyH_take (i := 12) (oi := { dst := some 140, op := Op.move (Operand.tmp 17), type := 4, pos := "more.go:41", after := #[{ on := 11, ground := Ground.guard }], guard := some (11, false) }) (v := ?_) rfl (by kernel_rfl) (by kernel_rfl) (by kernel_rfl) (fun _ _ _ h => h) (Or.inl ⟨by rfl, ?hyF12⟩) (by assumption) ?_
                    case hyF12 => (intro w hSw; (try dsimp only at hSw); go_simp; try with_reducible rfl)
                    (try simp only [Act.put, List.setIfInBounds_toArray, List.set_cons_zero, List.set_cons_succ])
                    refine wpAnyH_take (i := 13) (oi := { dst := some 141, op := Op.unOp UnOp.not 4 (Operand.tmp 140), type := 4, pos := "more.go:41", after := #[{ on := 12, ground := Ground.data }, { on := 11, ground := Ground.guard }], guard := some (11, false) }) (v := ?_) rfl (by kernel_rfl) (by kernel_rfl) (by kernel_rfl) (fun _ _ _ h => h) (Or.inl ⟨by rfl, ?hyF13⟩) (by assumption) ?_
                    case hyF13 => (intro w hSw; (try dsimp only at hSw); go_simp; try with_reducible rfl)
                    (try simp only [Act.put, List.setIfInBounds_toArray, List.set_cons_zero, List.set_cons_succ])
                    refine wpAnyH_take (i := 14) (oi := { dst := some 142, op := Op.move (Operand.tmp 141), type := 4, pos := "more.go:41", after := #[{ on := 13, ground := Ground.data }, { on := 11, ground := Ground.chain }, { on := 11, ground := Ground.guard }], guard := some (11, false) }) (v := ?_) rfl (by kernel_rfl) (by kernel_rfl) (by kernel_rfl) (fun _ _ _ h => h) (Or.inl ⟨by rfl, ?hyF14⟩) (by assumption) ?_
                    case hyF14 => (intro w hSw; (try dsimp only at hSw); go_simp; try with_reducible rfl)
                    (try simp only [Act.put, List.setIfInBounds_toArray, List.set_cons_zero, List.set_cons_succ])
                    refine wpAnyH_take (i := 15) (oi := { dst := some 143, op := Op.move (Operand.tmp 14), type := 22, pos := "more.go:41", after := #[{ on := 14, ground := Ground.guard }], guard := some (14, true) }) (v := ?_) rfl (by kernel_rfl) (by kernel_rfl) (by kernel_rfl) (fun _ _ _ h => h) (Or.inl ⟨by rfl, ?hyF15⟩) (by assumption) ?_
                    case hyF15 => (intro w hSw; (try dsimp only at hSw); go_simp; try with_reducible rfl)
                    (try simp only [Act.put, List.setIfInBounds_toArray, List.set_cons_zero, List.set_cons_succ])
                    refine wpAnyH_take (i := 16) (oi := { dst := some 144, op := Op.move (Operand.tmp 16), type := 3, pos := "more.go:41", after := #[{ on := 14, ground := Ground.guard }], guard := some (14, true) }) (v := ?_) rfl (by kernel_rfl) (by kernel_rfl) (by kernel_rfl) (fun _ _ _ h => h) (Or.inl ⟨by rfl, ?hyF16⟩) (by assumption) ?_
                    case hyF16 => (intro w hSw; (try dsimp only at hSw); go_simp; try with_reducible rfl)
                    (try simp only [Act.put, List.setIfInBounds_toArray, List.set_cons_zero, List.set_cons_succ])
                    refine wpAnyH_take (i := 17) (oi := { dst := some 145, op := Op.indexAddr 22 (Operand.tmp 143) (Operand.tmp 144), type := 0, pos := "more.go:41", after := #[{ on := 15, ground := Ground.data }, { on := 16, ground := Ground.data }, { on := 14, ground := Ground.guard }], guard := some (14, true) }) (v := ?_) rfl (by kernel_rfl) (by kernel_rfl) (by kernel_rfl) (fun _ _ _ h => h) (Or.inl ⟨by rfl, ?hyF17⟩) (by assumption) ?_
                    case hyF17 => (intro w hSw; (try dsimp only at hSw); go_simp; try with_reducible rfl)
                    (try simp only [Act.put, List.setIfInBounds_toArray, List.set_cons_zero, List.set_cons_succ])
                    refine wpAnyH_take (i := 18) (oi := { dst := some 146, op := Op.load 29 (Operand.tmp 145), type := 29, pos := "more.go:41", after := #[{ on := 17, ground := Ground.data }, { on := 14, ground := Ground.guard }], guard := some (14, true) }) (v := ?_) rfl (by kernel_rfl) (by kernel_rfl) (by kernel_rfl) (fun _ _ _ h => h) (Or.inl ⟨by rfl, ?hyF18⟩) (by assumption) ?_
                    case hyF18 => (intro w hSw; (try dsimp only at hSw); go_simp; try with_reducible rfl)
                    (try simp only [Act.put, List.setIfInBounds_toArray, List.set_cons_zero, List.set_cons_succ])
                    refine wpAnyH_take (i := 19) (oi := { dst := some 147, op := Op.move (Operand.tmp 0), type := 22, pos := "more.go:41", after := #[{ on := 14, ground := Ground.guard }], guard := some (14, true) }) (v := ?_) rfl (by kernel_rfl) (by kernel_rfl) (by kernel_rfl) (fun _ _ _ h => h) (Or.inl ⟨by rfl, ?hyF19⟩) (by assumption) ?_
                    case hyF19 => (intro w hSw; (try dsimp only at hSw); go_simp; try with_reducible rfl)
                    (try simp only [Act.put, List.setIfInBounds_toArray, List.set_cons_zero, List.set_cons_succ])
                    refine wpAnyH_take (i := 20) (oi := { dst := some 148, op := Op.move (Operand.tmp 16), type := 3, pos := "more.go:41", after := #[{ on := 14, ground := Ground.guard }], guard := some (14, true) }) (v := ?_) rfl (by kernel_rfl) (by kernel_rfl) (by kernel_rfl) (fun _ _ _ h => h) (Or.inl ⟨by rfl, ?hyF20⟩) (by assumption) ?_
                    case hyF20 => (intro w hSw; (try dsimp only at hSw); go_simp; try with_reducible rfl)
                    (try simp only [Act.put, List.setIfInBounds_toArray, List.set_cons_zero, List.set_cons_succ])
                    refine wpAnyH_take (i := 21) (oi := { dst := some 149, op := Op.indexAddr 22 (Operand.tmp 147) (Operand.tmp 148), type := 0, pos := "more.go:41", after := #[{ on := 19, ground := Ground.data }, { on := 20, ground := Ground.data }, { on := 14, ground := Ground.guard }], guard := some (14, true) }) (v := ?_) rfl (by kernel_rfl) (by kernel_rfl) (by kernel_rfl) (fun _ _ _ h => h) (Or.inl ⟨by rfl, ?hyF21⟩) (by assumption) ?_
                    case hyF21 => (intro w hSw; (try dsimp only at hSw); go_simp; try with_reducible rfl)
                    (try simp only [Act.put, List.setIfInBounds_toArray, List.set_cons_zero, List.set_cons_succ])
                    refine wpAnyH_take (i := 22) (oi := { dst := some 150, op := Op.load 29 (Operand.tmp 149), type := 29, pos := "more.go:41", after := #[{ on := 21, ground := Ground.data }, { on := 14, ground := Ground.guard }], guard := some (14, true) }) (v := ?_) rfl (by kernel_rfl) (by kernel_rfl) (by kernel_rfl) (fun _ _ _ h => h) (Or.inl ⟨by rfl, ?hyF22⟩) (by assumption) ?_
                    case hyF22 => (intro w hSw; (try dsimp only at hSw); go_simp; try with_reducible rfl)
                    (try simp only [Act.put, List.setIfInBounds_toArray, List.set_cons_zero, List.set_cons_succ])
                    refine wpAnyH_ready (rs := [23]) (by kernel_rfl) (by simp) ?_
                    refine AllReadyH.cons (o := { dst := some 151, op := Op.call { callee := Callee.value (Operand.func 8), args := #[Operand.tmp 146, Operand.tmp 150], argTypes := #[29, 29] }, type := 4, pos := "more.go:41", after := #[{ on := 18, ground := Ground.data }, { on := 22, ground := Ground.data }, { on := 14, ground := Ground.chain }, { on := 14, ground := Ground.guard }], guard := some (14, true) }) rfl (fun K hK => ?_) AllReadyH.nil
                    go_simp
                    with_reducible refine (HSm.out _).mono ?_
                    rintro e w' ⟨rfl, hb⟩
                    refine hK.out _ _ ?_ (fun hHeldFx => ?_)
                    · obtain ⟨q0, q1, q2, q3, q4, q5, q6, q7⟩ := hHeldF
                      exact ⟨keep_cell hb q0, keep_cell hb q1, keep_cell hb q2, keep_cell hb q3, keep_cell hb q4, keep_cell hb q5, below_next q6 hb q7, le_next q7 hb⟩
                    clear hK K hb hHeldF
                    (try simp only [Act.put, List.setIfInBounds_toArray, List.set_cons_zero, List.set_cons_succ])
                    refine wpAnyH_take (i := 24) (oi := { dst := some 152, op := Op.unOp UnOp.not 4 (Operand.tmp 151), type := 4, pos := "more.go:41", after := #[{ on := 23, ground := Ground.data }, { on := 14, ground := Ground.guard }], guard := some (14, true) }) (v := ?_) rfl (by kernel_rfl) (by kernel_rfl) (by kernel_rfl) (fun _ _ _ h => h) (Or.inl ⟨by rfl, ?hyF24⟩) (by assumption) ?_
                    case hyF24 => (intro w hSw; (try dsimp only at hSw); go_simp; try with_reducible rfl)
                    (try simp only [Act.put, List.setIfInBounds_toArray, List.set_cons_zero, List.set_cons_succ])
                    refine wpAnyH_take (i := 25) (oi := { dst := some 153, op := Op.pick (Operand.tmp 142) (Operand.tmp 152) (Operand.const (Value.bool false)), type := 4, pos := "more.go:41", after := #[{ on := 14, ground := Ground.data }, { on := 24, ground := Ground.data }, { on := 11, ground := Ground.guard }], guard := some (11, false) }) (v := ?_) rfl (by kernel_rfl) (by kernel_rfl) (by kernel_rfl) (fun _ _ _ h => h) (Or.inl ⟨by rfl, ?hyF25⟩) (by assumption) ?_
                    case hyF25 => (intro w hSw; (try dsimp only at hSw); go_simp; try with_reducible rfl)
                    (try simp only [Act.put, List.setIfInBounds_toArray, List.set_cons_zero, List.set_cons_succ])
                    refine wpAnyH_take (i := 26) (oi := { dst := some 154, op := Op.pick (Operand.tmp 139) (Operand.const (Value.bool true)) (Operand.tmp 153), type := 4, pos := "more.go:41", after := #[{ on := 11, ground := Ground.data }, { on := 25, ground := Ground.data }], guard := none }) (v := ?_) rfl (by kernel_rfl) (by kernel_rfl) (by kernel_rfl) (fun _ _ _ h => h) (Or.inl ⟨by rfl, ?hyF26⟩) (by assumption) ?_
                    case hyF26 => (intro w hSw; (try dsimp only at hSw); go_simp; try with_reducible rfl)
                    (try simp only [Act.put, List.setIfInBounds_toArray, List.set_cons_zero, List.set_cons_succ])
                    refine wpAnyH_done (by kernel_rfl) ?_ _
                    obtain ⟨_, _, _, _, _, _, qb6, qb7⟩ := hHeldFx
                    have HBe : Hid (Below w5.heap.size w5 _) := next_trans HBr.out qb6
                    go_wp2
                    go_roundw
                    case rel => exact ⟨j + 1, by omega, by go_num, HBe⟩
                    case measure => simp [intOf]; omega
            · have hji : ¬ (j : Int) < (n : Int) := by omega
              have HBe : Hid (Below w.heap.size w wr) := next_trans HB5.out HBr.out
              go_wp2
              go_ret
              exact ⟨rfl, HBe.out⟩
end Go.Proofs.YtlniifheapoppaaDoor
