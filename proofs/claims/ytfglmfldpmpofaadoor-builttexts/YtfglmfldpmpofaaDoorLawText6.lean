/- The walk of BuiltTexts. -/
import Derived.Test.YtfglmfldpmpofaaDoorBtKnow
import Derived.Test.YtfglmfldpmpofaaDoorValRight3
import Derived.Test.YtfglmfldpmpofaaDoorBtOpen
namespace Go.Proofs.YtfglmfldpmpofaaDoor
open Go.RowKit

theorem tx_right {L : List Val} {n : Nat} (hn : L.length ≤ n) (h : ∀ u ∈ L.take n, rightV u) : ∀ v ∈ L, rightV v := by
  rw [List.take_of_length_le hn] at h
  exact h
theorem tx_take {L : List Val} {n : Nat} {v : Val} (hv : L[n]? = some v) (h : ∀ u ∈ L.take n, rightV u) (hs : rightV v) : ∀ u ∈ L.take (n + 1), rightV u := by
  obtain ⟨hn, e⟩ := List.getElem?_eq_some_iff.1 hv
  rw [List.take_succ_eq_append_getElem hn, e]
  intro u hu
  rcases List.mem_append.1 hu with hu | hu
  · exact h u hu
  · rw [List.mem_singleton.1 hu]; exact hs
theorem tx_size {L : List Val} (hw : ∀ v ∈ L, v.wide) {n : Nat} {v : Val} (hv : L[n]? = some v) : v.s.size ≤ 9223372036854775807 := by
  have := (hw v (List.mem_of_getElem? hv)).2.2
  unfold maxLen at this
  omega
theorem tx_str {L : List Val} : applyR (code ⟨#[115, 116, 114, 45, 99, 97, 116]⟩) L = strcatR L := by
  have h : applyR (code ⟨#[115, 116, 114, 45, 99, 97, 116]⟩) L = if fitC 18 L.length = true then strcatR L else (none0, 1) := rfl
  rw [h, if_pos]
  show decide ((0 : Int) ≤ (L.length : Int) ∧ ((-1 : Int) < 0 ∨ (L.length : Int) ≤ -1)) = true
  exact decide_eq_true (by omega)
theorem tx_sym {L : List Val} (h1 : 1 ≤ L.length) : applyR (code ⟨#[115, 121, 109, 45, 99, 97, 116]⟩) L = symcatR L := by
  have h : applyR (code ⟨#[115, 121, 109, 45, 99, 97, 116]⟩) L = if fitC 19 L.length = true then symcatR L else (none0, 1) := rfl
  rw [h, if_pos]
  show decide ((1 : Int) ≤ (L.length : Int) ∧ ((-1 : Int) < 0 ∨ (L.length : Int) ≤ -1)) = true
  exact decide_eq_true (by omega)

set_option maxHeartbeats 1000000 in
set_option maxRecDepth 8000 in
theorem texts_out (ao : Option Addr) (N cap : Nat) (w : World) (h : N = 0 ∨ 20 < N) (ht : TabW w) :
    Calls Tryd.prog 7 #[.slice ao N cap] w fun e w' => e = .returned (.bool true) ∧ Below w.heap.size w w' := by
  have HT : Hid (TabW w) := ht
  clear ht
  rcases h with h | h
  · subst h
    go_enter Tryd.func7, Tryd.ntmps7
    go_wp2_with fail
    refine (known6 _ HT.out).mono ?_
    rintro e w1 ⟨rfl, hb1⟩
    go_wp2
    go_ret
    exact ⟨rfl, hb1⟩
  · have h1 : ((N : Int) == 0) = false := by simp; omega
    have h2 : (20 : Int) < (N : Int) := by omega
    go_enter Tryd.func7, Tryd.ntmps7
    go_wp2_with fail
    refine (known6 _ HT.out).mono ?_
    rintro e w1 ⟨rfl, hb1⟩
    go_wp2
    go_ret
    exact ⟨rfl, hb1⟩

set_option maxHeartbeats 8000000 in
set_option maxRecDepth 100000 in
theorem texts_a (ao : Option Addr) (N cap : Nat) (L : List Val) (w : World) (h1 : 1 ≤ N) (h2 : N ≤ 20) (hN : L.length = N) (hv : IsVals w ao L) (hw : ∀ v ∈ L, v.wide) (hx : 1000 < (catL L).length) (ht : TabW w) :
    Calls Tryd.prog 7 #[.slice ao N cap] w fun e w' => e = .returned (.bool true) ∧ Below w.heap.size w w' := by
  have HT : Hid (TabW w) := ht
  have HV : Hid (IsVals w ao L) := hv
  have HW : Hid (∀ v ∈ L, v.wide) := hw
  have HN : Hid (L.length = N) := hN
  have h1' : ((N : Int) == 0) = false := by simp; omega
  have h2' : ¬ (20 : Int) < (N : Int) := by omega
  have HRf : Hid (∀ (k i : Int) (s : ByteArray) (w : World), Calls Tryd.prog 15 #[.agg #[.int .i64 (k), .int .i64 (i), .string (s)], .agg #[.int .i64 (k), .int .i64 (i), .string (s)]] w fun e w' => e = .returned (.bool true) ∧ Below w.heap.size w w') := by
    intro k i s w; rw [← sameB_refl k i s]; exact rsame_any k i k i s s w
  have Hx : Hid (1000 < (catL L).length) := hx
  clear hx
  clear ht hv hw hN
  go_enter Tryd.func7, Tryd.ntmps7
  go_wp2_with fail
  refine (known6 _ HT.out).mono ?_
  rintro e w1 ⟨rfl, hb1⟩
  have b1 : Hid (Below w.heap.size w w1) := hb1
  clear hb1
  go_wp2
  go_loopw [3, 4] (fun x y wr => ∃ (n : Nat) (X : ByteArray), n ≤ N ∧ y = .int .i64 n ∧ x = .string X ∧ Hid (X.data.toList = catL (L.take n)) ∧ Hid (∀ u ∈ L.take n, rightV u) ∧ Hid (Below w.heap.size w wr)) (fun _ y _ => N - (intOf y).toNat)
  case atStart => exact ⟨0, _, Nat.zero_le _, rfl, rfl, rfl, fun u hu => by simp at hu, b1⟩
  case round =>
    obtain ⟨n, X, hn, rfl, rfl, HX, HF, HWr⟩ := hrel
    clear b1
    have hxs : X.size ≤ 100000 := by
      have h3 := catL_len (L := L.take n) HF.out
      have h4 : (L.take n).length ≤ N := by rw [List.length_take, HN.out]; omega
      rw [Lib.size_eq, HX.out]
      omega
    by_cases hlt : n < N
    · have hki : (n : Int) < (N : Int) := by omega
      obtain ⟨v, HG⟩ : ∃ v, Hid (L[n]? = some v) := ⟨_, List.getElem?_eq_getElem (by rw [HN.out]; exact hlt)⟩
      obtain ⟨b, o, rfl, c0, c1, c2⟩ := (HV.out.next HWr.out) n v HG.out
      have Hz : Hid (v.s.size ≤ 9223372036854775807) := tx_size HW.out HG.out
      have Hvi : Hid (inB v.i = true) := (HW.out v (List.mem_of_getElem? HG.out)).2.1
      obtain ⟨q, HQ⟩ : ∃ q, Hid (rightB v.k v.i v.s = q) := ⟨_, rfl⟩
      have hrt : Hid (∀ w : World, Calls Tryd.prog 10 #[.agg #[.int .i64 (v.k), .int .i64 (v.i), .string (v.s)]] w fun e w' => e = .returned (.bool q) ∧ Below w.heap.size w w') := by
        intro w; rw [← HQ.out]; exact brright_any v.k v.i v.s w Hz.out
      obtain ⟨vk, vi, vs⟩ := v
      go_wp2_with fail
      refine (hrt.out _).mono ?_
      rintro e w2 ⟨rfl, hb2⟩
      have b2 : Hid (Below w.heap.size w w2) := next_trans' HWr.out hb2
      have d0 := keep_cell hb2 c0
      have d1 := keep_cell hb2 c1
      have d2 := keep_cell hb2 c2
      clear hb2 hrt c0 c1 c2
      cases q
      · go_wp2
        go_ret
        exact ⟨rfl, b2.out⟩
      · have Hrv : Hid (rightV ⟨vk, vi, vs⟩) := ⟨HQ.out, Hvi.out⟩
        have HF2 : Hid (∀ u ∈ L.take (n + 1), rightV u) := tx_take HG.out HF.out Hrv.out
        obtain ⟨T, HTx⟩ : ∃ T : ByteArray, Hid (T = ⟨(plainL ⟨vk, vi, vs⟩).toArray⟩) := ⟨_, rfl⟩
        have HTs : Hid (T.size = (plainL ⟨vk, vi, vs⟩).length) := by rw [Hid, HTx.out]; rfl
        have ht1 : T.size ≤ 1000 := by rw [HTs.out]; exact plainL_len Hrv.out
        have HX2 : Hid ((X ++ T).data.toList = catL (L.take (n + 1))) := by rw [Hid, ba_app, HX.out, HTx.out, catL_take L n _ HG.out]
        go_wp2_with fail
        refine (rplain_any vk vi vs T _ (right_kind Hrv.out.1) (right_bd Hrv.out) Hrv.out.2 HTx.out).mono ?_
        rintro e w3 ⟨rfl, hb3⟩
        have b3 : Hid (Below w.heap.size w w3) := next_trans' b2.out hb3
        clear hb3
        go_wp2
        go_roundw
        case rel => exact ⟨n + 1, _, by omega, by go_num, rfl, HX2, HF2, b3⟩
        case measure => simp [intOf]; omega
    · have hki : ¬ (n : Int) < (N : Int) := by omega
      have HR : Hid (∀ v ∈ L, rightV v) := tx_right (by rw [HN.out]; omega) HF.out
      have HXe : Hid (catS L = X) := by
        rw [Hid]
        apply ba_ext
        rw [HX.out, List.take_of_length_le (by rw [HN.out]; omega)]
        rfl
      have HXl : Hid ((catL L).length = X.size) := by rw [Hid, ← HXe.out]; rfl
      have HTr : Hid (TabW wr) := tab_next HT.out HWr.out
      have HVr : Hid (IsVals wr ao L) := HV.out.next HWr.out
      have Hn : Hid (N ≤ 100) := by rw [Hid]; omega
      have HA1 : Hid (applyR (code ⟨#[115, 116, 114, 45, 99, 97, 116]⟩) L = strcatR L) := tx_str
      have HA2 : Hid (applyR (code ⟨#[115, 121, 109, 45, 99, 97, 116]⟩) L = symcatR L) := tx_sym (by rw [HN.out]; exact h1)
      clear HF hlt hn HX
      have hX : 1000 < X.size := by rw [← HXl.out]; exact Hx.out
      have HE1 : Hid (strcatR L = (⟨0, 0, ⟨#[]⟩⟩, 4)) := by unfold strcatR; rw [Hid, if_pos Hx.out]; rfl
      have HE2 : Hid (symcatR L = (⟨0, 0, ⟨#[]⟩⟩, 4)) := by unfold symcatR; rw [Hid, if_pos (by have := Hx.out; omega)]; rfl
      have l1 : decide ((X.size : Int) ≤ 1000) = false := decide_eq_false (by omega)
      have l2 : decide (X.size ≤ 1000) = false := decide_eq_false (by omega)
      have l3 : (40 : Int) < (X.size : Int) := by omega
      clear hX
      go_wp2_with fail
      refine (apply_any ⟨#[115, 116, 114, 45, 99, 97, 116]⟩ 0 0 4 ⟨#[]⟩ ao cap N L _ HN.out Hn.out HVr.out HR.out HTr.out (HA1.out.trans HE1.out)).mono ?_
      rintro e w2 ⟨rfl, hb2⟩
      have b2 : Hid (Below w.heap.size w w2) := next_trans' HWr.out hb2
      obtain ⟨x1, Hx1⟩ : ∃ x1, w2.heap.size = x1 := ⟨_, rfl⟩
      have HV2 : Hid (IsVals (w2.alloc (.cells #[.int .i64 0, .int .i64 0, .string ⟨#[]⟩] 26)) ao L) := (HVr.out.next hb2).next (alloc_below' _ _)
      have HT2 : Hid (TabW (w2.alloc (.cells #[.int .i64 0, .int .i64 0, .string ⟨#[]⟩] 26))) := tab_alloc (tab_next HTr.out hb2)
      have g0 : Hid ((w2.alloc (.cells #[.int .i64 0, .int .i64 0, .string ⟨#[]⟩] 26)).cell? ⟨x1, 0, none⟩ = some (.int .i64 0)) := box_cell Hx1.symm rfl
      have g1 : Hid ((w2.alloc (.cells #[.int .i64 0, .int .i64 0, .string ⟨#[]⟩] 26)).cell? ⟨x1, 1, none⟩ = some (.int .i64 0)) := box_cell Hx1.symm rfl
      have g2 : Hid ((w2.alloc (.cells #[.int .i64 0, .int .i64 0, .string ⟨#[]⟩] 26)).cell? ⟨x1, 2, none⟩ = some (.string ⟨#[]⟩)) := box_cell Hx1.symm rfl
      clear hb2 HVr HTr
      go_wp2_with fail
      refine (apply_any ⟨#[115, 121, 109, 45, 99, 97, 116]⟩ 0 0 4 ⟨#[]⟩ ao cap N L _ HN.out Hn.out HV2.out HR.out HT2.out (HA2.out.trans HE2.out)).mono ?_
      rintro e w3 ⟨rfl, hb3⟩
      obtain ⟨x2, Hx2⟩ : ∃ x2, w3.heap.size = x2 := ⟨_, rfl⟩
      obtain ⟨W, HWe⟩ : ∃ W, W = w3.alloc (.cells #[.int .i64 0, .int .i64 0, .string ⟨#[]⟩] 26) := ⟨_, rfl⟩
      have ga0 : W.drew.cell? ⟨x1, 0, none⟩ = some (.int .i64 0) := by rw [HWe]; exact alloc_cell (keep_cell hb3 g0.out)
      have ga1 : W.drew.cell? ⟨x1, 1, none⟩ = some (.int .i64 0) := by rw [HWe]; exact alloc_cell (keep_cell hb3 g1.out)
      have ga2 : W.drew.cell? ⟨x1, 2, none⟩ = some (.string ⟨#[]⟩) := by rw [HWe]; exact alloc_cell (keep_cell hb3 g2.out)
      have gb0 : W.drew.cell? ⟨x2, 0, none⟩ = some (.int .i64 0) := by rw [HWe]; exact box_cell Hx2.symm rfl
      have gb1 : W.drew.cell? ⟨x2, 1, none⟩ = some (.int .i64 0) := by rw [HWe]; exact box_cell Hx2.symm rfl
      have gb2 : W.drew.cell? ⟨x2, 2, none⟩ = some (.string ⟨#[]⟩) := by rw [HWe]; exact box_cell Hx2.symm rfl
      have s0 : Below w.heap.size w W.drew := by rw [HWe]; exact (next_trans' (next_trans' (next_trans' b2.out (alloc_below' _ _)) hb3) (alloc_below' _ _)).drew
      have s1 : w.heap.size ≤ W.drew.heap.size := s0.size
      clear hb3 HV2 HT2 b2 g0 g1 g2 HR HA1 HA2 HE1 HE2 HWr HT HV HW
      go_wp2_with fail
      rw [← HWe]
      clear HWe
      refine wp_region_held_drew (S := (fun w' => w'.cell? ⟨x1, 0, none⟩ = some (.int .i64 0) ∧ w'.cell? ⟨x1, 1, none⟩ = some (.int .i64 0) ∧ w'.cell? ⟨x1, 2, none⟩ = some (.string ⟨#[]⟩) ∧ w'.cell? ⟨x2, 0, none⟩ = some (.int .i64 0) ∧ w'.cell? ⟨x2, 1, none⟩ = some (.int .i64 0) ∧ w'.cell? ⟨x2, 2, none⟩ = some (.string ⟨#[]⟩) ∧ Below w.heap.size w w' ∧ w.heap.size ≤ w'.heap.size)) (by kernel_rfl) ?_ (fun hHeldA => ?_)
      · exact ⟨ga0, ga1, ga2, gb0, gb1, gb2, s0, s1⟩
      refine wpAnyH_take (i := 0) (oi := { dst := some 48, op := Op.move (Operand.tmp 6), type := 27, pos := "more.go:44", after := #[], guard := none }) (v := ?_) rfl (by kernel_rfl) (by kernel_rfl) (by kernel_rfl) (fun _ _ _ h => h) (Or.inl ⟨by rfl, ?hyA0⟩) (by assumption) ?_
      case hyA0 => (intro w hSw; (try dsimp only at hSw); go_simp; try with_reducible rfl)
      (try simp only [Act.put, List.setIfInBounds_toArray, List.set_cons_zero, List.set_cons_succ])
      refine wpAnyH_take (i := 1) (oi := { dst := some 49, op := Op.binOp BinOp.eql 3 (Operand.tmp 48) (Operand.const (Value.int IntKind.i64 0)) 3, type := 4, pos := "more.go:44", after := #[{ on := 0, ground := Ground.data }], guard := none }) (v := ?_) rfl (by kernel_rfl) (by kernel_rfl) (by kernel_rfl) (fun _ _ _ h => h) (Or.inl ⟨by rfl, ?hyA1⟩) (by assumption) ?_
      case hyA1 => (intro w hSw; (try dsimp only at hSw); go_simp; try with_reducible rfl)
      (try simp only [Act.put, List.setIfInBounds_toArray, List.set_cons_zero, List.set_cons_succ])
      refine wpAnyH_take (i := 2) (oi := { dst := some 50, op := Op.move (Operand.tmp 3), type := 9, pos := "more.go:44", after := #[], guard := none }) (v := ?_) rfl (by kernel_rfl) (by kernel_rfl) (by kernel_rfl) (fun _ _ _ h => h) (Or.inl ⟨by rfl, ?hyA2⟩) (by assumption) ?_
      case hyA2 => (intro w hSw; (try dsimp only at hSw); go_simp; try with_reducible rfl)
      (try simp only [Act.put, List.setIfInBounds_toArray, List.set_cons_zero, List.set_cons_succ])
      refine wpAnyH_take (i := 3) (oi := { dst := some 51, op := Op.call { callee := Callee.builtin Builtin.len, args := #[Operand.tmp 50], argTypes := #[9] }, type := 3, pos := "more.go:44", after := #[{ on := 2, ground := Ground.data }], guard := none }) (v := ?_) rfl (by kernel_rfl) (by kernel_rfl) (by kernel_rfl) (fun _ _ _ h => h) (Or.inl ⟨by rfl, ?hyA3⟩) (by assumption) ?_
      case hyA3 => (intro w hSw; (try dsimp only at hSw); go_simp; try with_reducible rfl)
      (try simp only [Act.put, List.setIfInBounds_toArray, List.set_cons_zero, List.set_cons_succ])
      refine wpAnyH_take (i := 4) (oi := { dst := some 52, op := Op.binOp BinOp.leq 3 (Operand.tmp 51) (Operand.const (Value.int IntKind.i64 1000)) 3, type := 4, pos := "more.go:44", after := #[{ on := 3, ground := Ground.data }], guard := none }) (v := ?_) rfl (by kernel_rfl) (by kernel_rfl) (by kernel_rfl) (fun _ _ _ h => h) (Or.inl ⟨by rfl, ?hyA4⟩) (by assumption) ?_
      case hyA4 => (intro w hSw; (try dsimp only at hSw); go_simp; try with_reducible rfl)
      (try simp only [Act.put, List.setIfInBounds_toArray, List.set_cons_zero, List.set_cons_succ])
      refine wpAnyH_take (i := 5) (oi := { dst := some 53, op := Op.binOp BinOp.neq 4 (Operand.tmp 49) (Operand.tmp 52) 4, type := 4, pos := "more.go:44", after := #[{ on := 1, ground := Ground.data }, { on := 4, ground := Ground.data }], guard := none }) (v := ?_) rfl (by kernel_rfl) (by kernel_rfl) (by kernel_rfl) (fun _ _ _ h => h) (Or.inl ⟨by rfl, ?hyA5⟩) (by assumption) ?_
      case hyA5 => (intro w hSw; (try dsimp only at hSw); go_simp; try with_reducible rfl)
      (try simp only [Act.put, List.setIfInBounds_toArray, List.set_cons_zero, List.set_cons_succ])
      refine wpAnyH_take (i := 6) (oi := { dst := some 54, op := Op.move (Operand.tmp 53), type := 4, pos := "more.go:44", after := #[{ on := 5, ground := Ground.data }], guard := none }) (v := ?_) rfl (by kernel_rfl) (by kernel_rfl) (by kernel_rfl) (fun _ _ _ h => h) (Or.inl ⟨by rfl, ?hyA6⟩) (by assumption) ?_
      case hyA6 => (intro w hSw; (try dsimp only at hSw); go_simp; try with_reducible rfl)
      (try simp only [Act.put, List.setIfInBounds_toArray, List.set_cons_zero, List.set_cons_succ])
      refine wpAnyH_take (i := 7) (oi := { dst := some 55, op := Op.move (Operand.tmp 6), type := 27, pos := "more.go:44", after := #[{ on := 6, ground := Ground.guard }], guard := some (6, false) }) (v := ?_) rfl (by kernel_rfl) (by kernel_rfl) (by kernel_rfl) (fun _ _ _ h => h) (Or.inl ⟨by rfl, ?hyA7⟩) (by assumption) ?_
      case hyA7 => (intro w hSw; (try dsimp only at hSw); go_simp; try with_reducible rfl)
      (try simp only [Act.put, List.setIfInBounds_toArray, List.set_cons_zero, List.set_cons_succ])
      refine wpAnyH_take (i := 8) (oi := { dst := some 56, op := Op.binOp BinOp.eql 3 (Operand.tmp 55) (Operand.const (Value.int IntKind.i64 0)) 3, type := 4, pos := "more.go:44", after := #[{ on := 7, ground := Ground.data }, { on := 6, ground := Ground.guard }], guard := some (6, false) }) (v := ?_) rfl (by kernel_rfl) (by kernel_rfl) (by kernel_rfl) (fun _ _ _ h => h) (Or.inl ⟨by rfl, ?hyA8⟩) (by assumption) ?_
      case hyA8 => (intro w hSw; (try dsimp only at hSw); go_simp; try with_reducible rfl)
      (try simp only [Act.put, List.setIfInBounds_toArray, List.set_cons_zero, List.set_cons_succ])
      refine wpAnyH_take (i := 9) (oi := { dst := some 57, op := Op.move (Operand.tmp 56), type := 4, pos := "more.go:44", after := #[{ on := 8, ground := Ground.data }, { on := 6, ground := Ground.chain }, { on := 6, ground := Ground.guard }], guard := some (6, false) }) (v := ?_) rfl (by kernel_rfl) (by kernel_rfl) (by kernel_rfl) (fun _ _ _ h => h) (Or.inl ⟨by rfl, ?hyA9⟩) (by assumption) ?_
      case hyA9 => (intro w hSw; (try dsimp only at hSw); go_simp; try with_reducible rfl)
      (try simp only [Act.put, List.setIfInBounds_toArray, List.set_cons_zero, List.set_cons_succ])
      refine wpAnyH_take (i := 10) (oi := { dst := some 58, op := Op.load 26 (Operand.tmp 5), type := 26, pos := "more.go:44", after := #[{ on := 9, ground := Ground.guard }], guard := some (9, true) }) (v := undef) rfl (by kernel_rfl) (by kernel_rfl) (by kernel_rfl) (fun _ _ _ h => h) (Or.inr ⟨by rfl, rfl⟩) (by assumption) ?_
      (try simp only [Act.put, List.setIfInBounds_toArray, List.set_cons_zero, List.set_cons_succ])
      refine wpAnyH_take (i := 11) (oi := { dst := some 59, op := Op.move (Operand.tmp 3), type := 9, pos := "more.go:44", after := #[{ on := 9, ground := Ground.guard }], guard := some (9, true) }) (v := undef) rfl (by kernel_rfl) (by kernel_rfl) (by kernel_rfl) (fun _ _ _ h => h) (Or.inr ⟨by rfl, rfl⟩) (by assumption) ?_
      (try simp only [Act.put, List.setIfInBounds_toArray, List.set_cons_zero, List.set_cons_succ])
      refine wpAnyH_take (i := 12) (oi := { dst := some 60, op := Op.call { callee := Callee.value (Operand.func 23), args := #[Operand.tmp 59], argTypes := #[9] }, type := 26, pos := "more.go:44", after := #[{ on := 11, ground := Ground.data }, { on := 9, ground := Ground.chain }, { on := 9, ground := Ground.guard }], guard := some (9, true) }) (v := undef) rfl (by kernel_rfl) (by kernel_rfl) (by kernel_rfl) (fun _ _ _ h => h) (Or.inr ⟨by rfl, rfl⟩) (by assumption) ?_
      (try simp only [Act.put, List.setIfInBounds_toArray, List.set_cons_zero, List.set_cons_succ])
      refine wpAnyH_take (i := 13) (oi := { dst := some 61, op := Op.call { callee := Callee.value (Operand.func 15), args := #[Operand.tmp 58, Operand.tmp 60], argTypes := #[26, 26] }, type := 4, pos := "more.go:44", after := #[{ on := 10, ground := Ground.data }, { on := 12, ground := Ground.data }, { on := 12, ground := Ground.chain }, { on := 9, ground := Ground.guard }], guard := some (9, true) }) (v := undef) rfl (by kernel_rfl) (by kernel_rfl) (by kernel_rfl) (fun _ _ _ h => h) (Or.inr ⟨by rfl, rfl⟩) (by assumption) ?_
      (try simp only [Act.put, List.setIfInBounds_toArray, List.set_cons_zero, List.set_cons_succ])
      refine wpAnyH_take (i := 14) (oi := { dst := some 62, op := Op.unOp UnOp.not 4 (Operand.tmp 61), type := 4, pos := "more.go:44", after := #[{ on := 13, ground := Ground.data }, { on := 9, ground := Ground.guard }], guard := some (9, true) }) (v := undef) rfl (by kernel_rfl) (by kernel_rfl) (by kernel_rfl) (fun _ _ _ h => h) (Or.inr ⟨by rfl, rfl⟩) (by assumption) ?_
      (try simp only [Act.put, List.setIfInBounds_toArray, List.set_cons_zero, List.set_cons_succ])
      refine wpAnyH_take (i := 15) (oi := { dst := some 63, op := Op.pick (Operand.tmp 57) (Operand.tmp 62) (Operand.const (Value.bool false)), type := 4, pos := "more.go:44", after := #[{ on := 9, ground := Ground.data }, { on := 14, ground := Ground.data }, { on := 6, ground := Ground.guard }], guard := some (6, false) }) (v := ?_) rfl (by kernel_rfl) (by kernel_rfl) (by kernel_rfl) (fun _ _ _ h => h) (Or.inl ⟨by rfl, ?hyA15⟩) (by assumption) ?_
      case hyA15 => (intro w hSw; (try dsimp only at hSw); go_simp; try with_reducible rfl)
      (try simp only [Act.put, List.setIfInBounds_toArray, List.set_cons_zero, List.set_cons_succ])
      refine wpAnyH_take (i := 16) (oi := { dst := some 64, op := Op.pick (Operand.tmp 54) (Operand.const (Value.bool true)) (Operand.tmp 63), type := 4, pos := "more.go:44", after := #[{ on := 6, ground := Ground.data }, { on := 15, ground := Ground.data }], guard := none }) (v := ?_) rfl (by kernel_rfl) (by kernel_rfl) (by kernel_rfl) (fun _ _ _ h => h) (Or.inl ⟨by rfl, ?hyA16⟩) (by assumption) ?_
      case hyA16 => (intro w hSw; (try dsimp only at hSw); go_simp; try with_reducible rfl)
      (try simp only [Act.put, List.setIfInBounds_toArray, List.set_cons_zero, List.set_cons_succ])
      refine wpAnyH_take (i := 17) (oi := { dst := some 65, op := Op.move (Operand.tmp 64), type := 4, pos := "more.go:44", after := #[{ on := 16, ground := Ground.data }, { on := 13, ground := Ground.chain }], guard := none }) (v := ?_) rfl (by kernel_rfl) (by kernel_rfl) (by kernel_rfl) (fun _ _ _ h => h) (Or.inl ⟨by rfl, ?hyA17⟩) (by assumption) ?_
      case hyA17 => (intro w hSw; (try dsimp only at hSw); go_simp; try with_reducible rfl)
      (try simp only [Act.put, List.setIfInBounds_toArray, List.set_cons_zero, List.set_cons_succ])
      refine wpAnyH_take (i := 18) (oi := { dst := some 66, op := Op.move (Operand.tmp 6), type := 27, pos := "more.go:44", after := #[{ on := 17, ground := Ground.guard }], guard := some (17, false) }) (v := ?_) rfl (by kernel_rfl) (by kernel_rfl) (by kernel_rfl) (fun _ _ _ h => h) (Or.inl ⟨by rfl, ?hyA18⟩) (by assumption) ?_
      case hyA18 => (intro w hSw; (try dsimp only at hSw); go_simp; try with_reducible rfl)
      (try simp only [Act.put, List.setIfInBounds_toArray, List.set_cons_zero, List.set_cons_succ])
      refine wpAnyH_take (i := 19) (oi := { dst := some 67, op := Op.binOp BinOp.neq 3 (Operand.tmp 66) (Operand.const (Value.int IntKind.i64 0)) 3, type := 4, pos := "more.go:44", after := #[{ on := 18, ground := Ground.data }, { on := 17, ground := Ground.guard }], guard := some (17, false) }) (v := ?_) rfl (by kernel_rfl) (by kernel_rfl) (by kernel_rfl) (fun _ _ _ h => h) (Or.inl ⟨by rfl, ?hyA19⟩) (by assumption) ?_
      case hyA19 => (intro w hSw; (try dsimp only at hSw); go_simp; try with_reducible rfl)
      (try simp only [Act.put, List.setIfInBounds_toArray, List.set_cons_zero, List.set_cons_succ])
      refine wpAnyH_take (i := 20) (oi := { dst := some 68, op := Op.move (Operand.tmp 67), type := 4, pos := "more.go:44", after := #[{ on := 19, ground := Ground.data }, { on := 17, ground := Ground.chain }, { on := 17, ground := Ground.guard }], guard := some (17, false) }) (v := ?_) rfl (by kernel_rfl) (by kernel_rfl) (by kernel_rfl) (fun _ _ _ h => h) (Or.inl ⟨by rfl, ?hyA20⟩) (by assumption) ?_
      case hyA20 => (intro w hSw; (try dsimp only at hSw); go_simp; try with_reducible rfl)
      (try simp only [Act.put, List.setIfInBounds_toArray, List.set_cons_zero, List.set_cons_succ])
      refine wpAnyH_take (i := 21) (oi := { dst := some 69, op := Op.move (Operand.tmp 6), type := 27, pos := "more.go:44", after := #[{ on := 20, ground := Ground.guard }], guard := some (20, true) }) (v := ?_) rfl (by kernel_rfl) (by kernel_rfl) (by kernel_rfl) (fun _ _ _ h => h) (Or.inl ⟨by rfl, ?hyA21⟩) (by assumption) ?_
      case hyA21 => (intro w hSw; (try dsimp only at hSw); go_simp; try with_reducible rfl)
      (try simp only [Act.put, List.setIfInBounds_toArray, List.set_cons_zero, List.set_cons_succ])
      refine wpAnyH_take (i := 22) (oi := { dst := some 70, op := Op.binOp BinOp.neq 3 (Operand.tmp 69) (Operand.const (Value.int IntKind.i64 4)) 3, type := 4, pos := "more.go:44", after := #[{ on := 21, ground := Ground.data }, { on := 20, ground := Ground.guard }], guard := some (20, true) }) (v := ?_) rfl (by kernel_rfl) (by kernel_rfl) (by kernel_rfl) (fun _ _ _ h => h) (Or.inl ⟨by rfl, ?hyA22⟩) (by assumption) ?_
      case hyA22 => (intro w hSw; (try dsimp only at hSw); go_simp; try with_reducible rfl)
      (try simp only [Act.put, List.setIfInBounds_toArray, List.set_cons_zero, List.set_cons_succ])
      refine wpAnyH_take (i := 23) (oi := { dst := some 71, op := Op.pick (Operand.tmp 68) (Operand.tmp 70) (Operand.const (Value.bool false)), type := 4, pos := "more.go:44", after := #[{ on := 20, ground := Ground.data }, { on := 22, ground := Ground.data }, { on := 17, ground := Ground.guard }], guard := some (17, false) }) (v := ?_) rfl (by kernel_rfl) (by kernel_rfl) (by kernel_rfl) (fun _ _ _ h => h) (Or.inl ⟨by rfl, ?hyA23⟩) (by assumption) ?_
      case hyA23 => (intro w hSw; (try dsimp only at hSw); go_simp; try with_reducible rfl)
      (try simp only [Act.put, List.setIfInBounds_toArray, List.set_cons_zero, List.set_cons_succ])
      refine wpAnyH_take (i := 24) (oi := { dst := some 72, op := Op.pick (Operand.tmp 65) (Operand.const (Value.bool true)) (Operand.tmp 71), type := 4, pos := "more.go:44", after := #[{ on := 17, ground := Ground.data }, { on := 23, ground := Ground.data }], guard := none }) (v := ?_) rfl (by kernel_rfl) (by kernel_rfl) (by kernel_rfl) (fun _ _ _ h => h) (Or.inl ⟨by rfl, ?hyA24⟩) (by assumption) ?_
      case hyA24 => (intro w hSw; (try dsimp only at hSw); go_simp; try with_reducible rfl)
      (try simp only [Act.put, List.setIfInBounds_toArray, List.set_cons_zero, List.set_cons_succ])
      refine wpAnyH_done (by kernel_rfl) ?_ _
      obtain ⟨_, _, _, _, _, _, hbl, _⟩ := hHeldA
      go_wp2
      go_ret
      exact ⟨rfl, hbl⟩

set_option maxHeartbeats 8000000 in
set_option maxRecDepth 100000 in
theorem texts_b (ao : Option Addr) (N cap : Nat) (L : List Val) (w : World) (h1 : 1 ≤ N) (h2 : N ≤ 20) (hN : L.length = N) (hv : IsVals w ao L) (hw : ∀ v ∈ L, v.wide) (hx : ¬ 1000 < (catL L).length) (hy : 40 < (catL L).length) (ht : TabW w) :
    Calls Tryd.prog 7 #[.slice ao N cap] w fun e w' => e = .returned (.bool true) ∧ Below w.heap.size w w' := by
  have HT : Hid (TabW w) := ht
  have HV : Hid (IsVals w ao L) := hv
  have HW : Hid (∀ v ∈ L, v.wide) := hw
  have HN : Hid (L.length = N) := hN
  have h1' : ((N : Int) == 0) = false := by simp; omega
  have h2' : ¬ (20 : Int) < (N : Int) := by omega
  have HRf : Hid (∀ (k i : Int) (s : ByteArray) (w : World), Calls Tryd.prog 15 #[.agg #[.int .i64 (k), .int .i64 (i), .string (s)], .agg #[.int .i64 (k), .int .i64 (i), .string (s)]] w fun e w' => e = .returned (.bool true) ∧ Below w.heap.size w w') := by
    intro k i s w; rw [← sameB_refl k i s]; exact rsame_any k i k i s s w
  have Hx : Hid (¬ 1000 < (catL L).length) := hx
  have Hy : Hid (40 < (catL L).length) := hy
  clear hx hy
  clear ht hv hw hN
  go_enter Tryd.func7, Tryd.ntmps7
  go_wp2_with fail
  refine (known6 _ HT.out).mono ?_
  rintro e w1 ⟨rfl, hb1⟩
  have b1 : Hid (Below w.heap.size w w1) := hb1
  clear hb1
  go_wp2
  go_loopw [3, 4] (fun x y wr => ∃ (n : Nat) (X : ByteArray), n ≤ N ∧ y = .int .i64 n ∧ x = .string X ∧ Hid (X.data.toList = catL (L.take n)) ∧ Hid (∀ u ∈ L.take n, rightV u) ∧ Hid (Below w.heap.size w wr)) (fun _ y _ => N - (intOf y).toNat)
  case atStart => exact ⟨0, _, Nat.zero_le _, rfl, rfl, rfl, fun u hu => by simp at hu, b1⟩
  case round =>
    obtain ⟨n, X, hn, rfl, rfl, HX, HF, HWr⟩ := hrel
    clear b1
    have hxs : X.size ≤ 100000 := by
      have h3 := catL_len (L := L.take n) HF.out
      have h4 : (L.take n).length ≤ N := by rw [List.length_take, HN.out]; omega
      rw [Lib.size_eq, HX.out]
      omega
    by_cases hlt : n < N
    · have hki : (n : Int) < (N : Int) := by omega
      obtain ⟨v, HG⟩ : ∃ v, Hid (L[n]? = some v) := ⟨_, List.getElem?_eq_getElem (by rw [HN.out]; exact hlt)⟩
      obtain ⟨b, o, rfl, c0, c1, c2⟩ := (HV.out.next HWr.out) n v HG.out
      have Hz : Hid (v.s.size ≤ 9223372036854775807) := tx_size HW.out HG.out
      have Hvi : Hid (inB v.i = true) := (HW.out v (List.mem_of_getElem? HG.out)).2.1
      obtain ⟨q, HQ⟩ : ∃ q, Hid (rightB v.k v.i v.s = q) := ⟨_, rfl⟩
      have hrt : Hid (∀ w : World, Calls Tryd.prog 10 #[.agg #[.int .i64 (v.k), .int .i64 (v.i), .string (v.s)]] w fun e w' => e = .returned (.bool q) ∧ Below w.heap.size w w') := by
        intro w; rw [← HQ.out]; exact brright_any v.k v.i v.s w Hz.out
      obtain ⟨vk, vi, vs⟩ := v
      go_wp2_with fail
      refine (hrt.out _).mono ?_
      rintro e w2 ⟨rfl, hb2⟩
      have b2 : Hid (Below w.heap.size w w2) := next_trans' HWr.out hb2
      have d0 := keep_cell hb2 c0
      have d1 := keep_cell hb2 c1
      have d2 := keep_cell hb2 c2
      clear hb2 hrt c0 c1 c2
      cases q
      · go_wp2
        go_ret
        exact ⟨rfl, b2.out⟩
      · have Hrv : Hid (rightV ⟨vk, vi, vs⟩) := ⟨HQ.out, Hvi.out⟩
        have HF2 : Hid (∀ u ∈ L.take (n + 1), rightV u) := tx_take HG.out HF.out Hrv.out
        obtain ⟨T, HTx⟩ : ∃ T : ByteArray, Hid (T = ⟨(plainL ⟨vk, vi, vs⟩).toArray⟩) := ⟨_, rfl⟩
        have HTs : Hid (T.size = (plainL ⟨vk, vi, vs⟩).length) := by rw [Hid, HTx.out]; rfl
        have ht1 : T.size ≤ 1000 := by rw [HTs.out]; exact plainL_len Hrv.out
        have HX2 : Hid ((X ++ T).data.toList = catL (L.take (n + 1))) := by rw [Hid, ba_app, HX.out, HTx.out, catL_take L n _ HG.out]
        go_wp2_with fail
        refine (rplain_any vk vi vs T _ (right_kind Hrv.out.1) (right_bd Hrv.out) Hrv.out.2 HTx.out).mono ?_
        rintro e w3 ⟨rfl, hb3⟩
        have b3 : Hid (Below w.heap.size w w3) := next_trans' b2.out hb3
        clear hb3
        go_wp2
        go_roundw
        case rel => exact ⟨n + 1, _, by omega, by go_num, rfl, HX2, HF2, b3⟩
        case measure => simp [intOf]; omega
    · have hki : ¬ (n : Int) < (N : Int) := by omega
      have HR : Hid (∀ v ∈ L, rightV v) := tx_right (by rw [HN.out]; omega) HF.out
      have HXe : Hid (catS L = X) := by
        rw [Hid]
        apply ba_ext
        rw [HX.out, List.take_of_length_le (by rw [HN.out]; omega)]
        rfl
      have HXl : Hid ((catL L).length = X.size) := by rw [Hid, ← HXe.out]; rfl
      have HTr : Hid (TabW wr) := tab_next HT.out HWr.out
      have HVr : Hid (IsVals wr ao L) := HV.out.next HWr.out
      have Hn : Hid (N ≤ 100) := by rw [Hid]; omega
      have HA1 : Hid (applyR (code ⟨#[115, 116, 114, 45, 99, 97, 116]⟩) L = strcatR L) := tx_str
      have HA2 : Hid (applyR (code ⟨#[115, 121, 109, 45, 99, 97, 116]⟩) L = symcatR L) := tx_sym (by rw [HN.out]; exact h1)
      clear HF hlt hn HX
      have hX : 40 < X.size := by rw [← HXl.out]; exact Hy.out
      have hX2 : X.size ≤ 1000 := by rw [← HXl.out]; have := Hx.out; omega
      have HE1 : Hid (strcatR L = (⟨3, 0, X⟩, 0)) := by unfold strcatR; rw [Hid, if_neg Hx.out, HXe.out]
      have HE2 : Hid (symcatR L = (⟨0, 0, ⟨#[]⟩⟩, 4)) := by unfold symcatR; rw [Hid, if_pos Hy.out]; rfl
      have l1 : decide ((X.size : Int) ≤ 1000) = true := decide_eq_true (by omega)
      have l2 : decide (X.size ≤ 1000) = true := decide_eq_true (by omega)
      have l3 : (40 : Int) < (X.size : Int) := by omega
      clear hX hX2
      go_wp2_with fail
      refine (apply_any ⟨#[115, 116, 114, 45, 99, 97, 116]⟩ 3 0 0 X ao cap N L _ HN.out Hn.out HVr.out HR.out HTr.out (HA1.out.trans HE1.out)).mono ?_
      rintro e w2 ⟨rfl, hb2⟩
      have b2 : Hid (Below w.heap.size w w2) := next_trans' HWr.out hb2
      obtain ⟨x1, Hx1⟩ : ∃ x1, w2.heap.size = x1 := ⟨_, rfl⟩
      have HV2 : Hid (IsVals (w2.alloc (.cells #[.int .i64 3, .int .i64 0, .string X] 26)) ao L) := (HVr.out.next hb2).next (alloc_below' _ _)
      have HT2 : Hid (TabW (w2.alloc (.cells #[.int .i64 3, .int .i64 0, .string X] 26))) := tab_alloc (tab_next HTr.out hb2)
      have g0 : Hid ((w2.alloc (.cells #[.int .i64 3, .int .i64 0, .string X] 26)).cell? ⟨x1, 0, none⟩ = some (.int .i64 3)) := box_cell Hx1.symm rfl
      have g1 : Hid ((w2.alloc (.cells #[.int .i64 3, .int .i64 0, .string X] 26)).cell? ⟨x1, 1, none⟩ = some (.int .i64 0)) := box_cell Hx1.symm rfl
      have g2 : Hid ((w2.alloc (.cells #[.int .i64 3, .int .i64 0, .string X] 26)).cell? ⟨x1, 2, none⟩ = some (.string X)) := box_cell Hx1.symm rfl
      clear hb2 HVr HTr
      go_wp2_with fail
      refine (apply_any ⟨#[115, 121, 109, 45, 99, 97, 116]⟩ 0 0 4 ⟨#[]⟩ ao cap N L _ HN.out Hn.out HV2.out HR.out HT2.out (HA2.out.trans HE2.out)).mono ?_
      rintro e w3 ⟨rfl, hb3⟩
      obtain ⟨x2, Hx2⟩ : ∃ x2, w3.heap.size = x2 := ⟨_, rfl⟩
      obtain ⟨W, HWe⟩ : ∃ W, W = w3.alloc (.cells #[.int .i64 0, .int .i64 0, .string ⟨#[]⟩] 26) := ⟨_, rfl⟩
      have ga0 : W.drew.cell? ⟨x1, 0, none⟩ = some (.int .i64 3) := by rw [HWe]; exact alloc_cell (keep_cell hb3 g0.out)
      have ga1 : W.drew.cell? ⟨x1, 1, none⟩ = some (.int .i64 0) := by rw [HWe]; exact alloc_cell (keep_cell hb3 g1.out)
      have ga2 : W.drew.cell? ⟨x1, 2, none⟩ = some (.string X) := by rw [HWe]; exact alloc_cell (keep_cell hb3 g2.out)
      have gb0 : W.drew.cell? ⟨x2, 0, none⟩ = some (.int .i64 0) := by rw [HWe]; exact box_cell Hx2.symm rfl
      have gb1 : W.drew.cell? ⟨x2, 1, none⟩ = some (.int .i64 0) := by rw [HWe]; exact box_cell Hx2.symm rfl
      have gb2 : W.drew.cell? ⟨x2, 2, none⟩ = some (.string ⟨#[]⟩) := by rw [HWe]; exact box_cell Hx2.symm rfl
      have s0 : Below w.heap.size w W.drew := by rw [HWe]; exact (next_trans' (next_trans' (next_trans' b2.out (alloc_below' _ _)) hb3) (alloc_below' _ _)).drew
      have s1 : w.heap.size ≤ W.drew.heap.size := s0.size
      clear hb3 HV2 HT2 b2 g0 g1 g2 HR HA1 HA2 HE1 HE2 HWr HT HV HW
      go_wp2_with fail
      rw [← HWe]
      clear HWe
      refine wp_region_held_drew (S := (fun w' => w'.cell? ⟨x1, 0, none⟩ = some (.int .i64 3) ∧ w'.cell? ⟨x1, 1, none⟩ = some (.int .i64 0) ∧ w'.cell? ⟨x1, 2, none⟩ = some (.string X) ∧ w'.cell? ⟨x2, 0, none⟩ = some (.int .i64 0) ∧ w'.cell? ⟨x2, 1, none⟩ = some (.int .i64 0) ∧ w'.cell? ⟨x2, 2, none⟩ = some (.string ⟨#[]⟩) ∧ Below w.heap.size w w' ∧ w.heap.size ≤ w'.heap.size)) (by kernel_rfl) ?_ (fun hHeldB => ?_)
      · exact ⟨ga0, ga1, ga2, gb0, gb1, gb2, s0, s1⟩
      refine wpAnyH_take (i := 0) (oi := { dst := some 48, op := Op.move (Operand.tmp 6), type := 27, pos := "more.go:44", after := #[], guard := none }) (v := ?_) rfl (by kernel_rfl) (by kernel_rfl) (by kernel_rfl) (fun _ _ _ h => h) (Or.inl ⟨by rfl, ?hyB0⟩) (by assumption) ?_
      case hyB0 => (intro w hSw; (try dsimp only at hSw); go_simp; try with_reducible rfl)
      (try simp only [Act.put, List.setIfInBounds_toArray, List.set_cons_zero, List.set_cons_succ])
      refine wpAnyH_take (i := 1) (oi := { dst := some 49, op := Op.binOp BinOp.eql 3 (Operand.tmp 48) (Operand.const (Value.int IntKind.i64 0)) 3, type := 4, pos := "more.go:44", after := #[{ on := 0, ground := Ground.data }], guard := none }) (v := ?_) rfl (by kernel_rfl) (by kernel_rfl) (by kernel_rfl) (fun _ _ _ h => h) (Or.inl ⟨by rfl, ?hyB1⟩) (by assumption) ?_
      case hyB1 => (intro w hSw; (try dsimp only at hSw); go_simp; try with_reducible rfl)
      (try simp only [Act.put, List.setIfInBounds_toArray, List.set_cons_zero, List.set_cons_succ])
      refine wpAnyH_take (i := 2) (oi := { dst := some 50, op := Op.move (Operand.tmp 3), type := 9, pos := "more.go:44", after := #[], guard := none }) (v := ?_) rfl (by kernel_rfl) (by kernel_rfl) (by kernel_rfl) (fun _ _ _ h => h) (Or.inl ⟨by rfl, ?hyB2⟩) (by assumption) ?_
      case hyB2 => (intro w hSw; (try dsimp only at hSw); go_simp; try with_reducible rfl)
      (try simp only [Act.put, List.setIfInBounds_toArray, List.set_cons_zero, List.set_cons_succ])
      refine wpAnyH_take (i := 3) (oi := { dst := some 51, op := Op.call { callee := Callee.builtin Builtin.len, args := #[Operand.tmp 50], argTypes := #[9] }, type := 3, pos := "more.go:44", after := #[{ on := 2, ground := Ground.data }], guard := none }) (v := ?_) rfl (by kernel_rfl) (by kernel_rfl) (by kernel_rfl) (fun _ _ _ h => h) (Or.inl ⟨by rfl, ?hyB3⟩) (by assumption) ?_
      case hyB3 => (intro w hSw; (try dsimp only at hSw); go_simp; try with_reducible rfl)
      (try simp only [Act.put, List.setIfInBounds_toArray, List.set_cons_zero, List.set_cons_succ])
      refine wpAnyH_take (i := 4) (oi := { dst := some 52, op := Op.binOp BinOp.leq 3 (Operand.tmp 51) (Operand.const (Value.int IntKind.i64 1000)) 3, type := 4, pos := "more.go:44", after := #[{ on := 3, ground := Ground.data }], guard := none }) (v := ?_) rfl (by kernel_rfl) (by kernel_rfl) (by kernel_rfl) (fun _ _ _ h => h) (Or.inl ⟨by rfl, ?hyB4⟩) (by assumption) ?_
      case hyB4 => (intro w hSw; (try dsimp only at hSw); go_simp; try with_reducible rfl)
      (try simp only [Act.put, List.setIfInBounds_toArray, List.set_cons_zero, List.set_cons_succ])
      refine wpAnyH_take (i := 5) (oi := { dst := some 53, op := Op.binOp BinOp.neq 4 (Operand.tmp 49) (Operand.tmp 52) 4, type := 4, pos := "more.go:44", after := #[{ on := 1, ground := Ground.data }, { on := 4, ground := Ground.data }], guard := none }) (v := ?_) rfl (by kernel_rfl) (by kernel_rfl) (by kernel_rfl) (fun _ _ _ h => h) (Or.inl ⟨by rfl, ?hyB5⟩) (by assumption) ?_
      case hyB5 => (intro w hSw; (try dsimp only at hSw); go_simp; try with_reducible rfl)
      (try simp only [Act.put, List.setIfInBounds_toArray, List.set_cons_zero, List.set_cons_succ])
      refine wpAnyH_take (i := 6) (oi := { dst := some 54, op := Op.move (Operand.tmp 53), type := 4, pos := "more.go:44", after := #[{ on := 5, ground := Ground.data }], guard := none }) (v := ?_) rfl (by kernel_rfl) (by kernel_rfl) (by kernel_rfl) (fun _ _ _ h => h) (Or.inl ⟨by rfl, ?hyB6⟩) (by assumption) ?_
      case hyB6 => (intro w hSw; (try dsimp only at hSw); go_simp; try with_reducible rfl)
      (try simp only [Act.put, List.setIfInBounds_toArray, List.set_cons_zero, List.set_cons_succ])
      refine wpAnyH_take (i := 7) (oi := { dst := some 55, op := Op.move (Operand.tmp 6), type := 27, pos := "more.go:44", after := #[{ on := 6, ground := Ground.guard }], guard := some (6, false) }) (v := ?_) rfl (by kernel_rfl) (by kernel_rfl) (by kernel_rfl) (fun _ _ _ h => h) (Or.inl ⟨by rfl, ?hyB7⟩) (by assumption) ?_
      case hyB7 => (intro w hSw; (try dsimp only at hSw); go_simp; try with_reducible rfl)
      (try simp only [Act.put, List.setIfInBounds_toArray, List.set_cons_zero, List.set_cons_succ])
      refine wpAnyH_take (i := 8) (oi := { dst := some 56, op := Op.binOp BinOp.eql 3 (Operand.tmp 55) (Operand.const (Value.int IntKind.i64 0)) 3, type := 4, pos := "more.go:44", after := #[{ on := 7, ground := Ground.data }, { on := 6, ground := Ground.guard }], guard := some (6, false) }) (v := ?_) rfl (by kernel_rfl) (by kernel_rfl) (by kernel_rfl) (fun _ _ _ h => h) (Or.inl ⟨by rfl, ?hyB8⟩) (by assumption) ?_
      case hyB8 => (intro w hSw; (try dsimp only at hSw); go_simp; try with_reducible rfl)
      (try simp only [Act.put, List.setIfInBounds_toArray, List.set_cons_zero, List.set_cons_succ])
      refine wpAnyH_take (i := 9) (oi := { dst := some 57, op := Op.move (Operand.tmp 56), type := 4, pos := "more.go:44", after := #[{ on := 8, ground := Ground.data }, { on := 6, ground := Ground.chain }, { on := 6, ground := Ground.guard }], guard := some (6, false) }) (v := ?_) rfl (by kernel_rfl) (by kernel_rfl) (by kernel_rfl) (fun _ _ _ h => h) (Or.inl ⟨by rfl, ?hyB9⟩) (by assumption) ?_
      case hyB9 => (intro w hSw; (try dsimp only at hSw); go_simp; try with_reducible rfl)
      (try simp only [Act.put, List.setIfInBounds_toArray, List.set_cons_zero, List.set_cons_succ])
      refine wpAnyH_take (i := 10) (oi := { dst := some 58, op := Op.load 26 (Operand.tmp 5), type := 26, pos := "more.go:44", after := #[{ on := 9, ground := Ground.guard }], guard := some (9, true) }) (v := ?_) rfl (by kernel_rfl) (by kernel_rfl) (by kernel_rfl) (fun _ _ _ h => h) (Or.inl ⟨by rfl, ?hyB10⟩) (by assumption) ?_
      case hyB10 => (intro w hSw; (try dsimp only at hSw); go_simp; try with_reducible rfl)
      (try simp only [Act.put, List.setIfInBounds_toArray, List.set_cons_zero, List.set_cons_succ])
      refine wpAnyH_take (i := 11) (oi := { dst := some 59, op := Op.move (Operand.tmp 3), type := 9, pos := "more.go:44", after := #[{ on := 9, ground := Ground.guard }], guard := some (9, true) }) (v := ?_) rfl (by kernel_rfl) (by kernel_rfl) (by kernel_rfl) (fun _ _ _ h => h) (Or.inl ⟨by rfl, ?hyB11⟩) (by assumption) ?_
      case hyB11 => (intro w hSw; (try dsimp only at hSw); go_simp; try with_reducible rfl)
      (try simp only [Act.put, List.setIfInBounds_toArray, List.set_cons_zero, List.set_cons_succ])
      refine wpAnyH_ready (rs := [12]) (by kernel_rfl) (by simp) ?_
      refine AllReadyH.cons (o := { dst := some 60, op := Op.call { callee := Callee.value (Operand.func 23), args := #[Operand.tmp 59], argTypes := #[9] }, type := 26, pos := "more.go:44", after := #[{ on := 11, ground := Ground.data }, { on := 9, ground := Ground.chain }, { on := 9, ground := Ground.guard }], guard := some (9, true) }) rfl (fun K hK => ?_) AllReadyH.nil
      go_simp
      with_reducible refine (rstr_any _ _).mono ?_
      rintro e w' ⟨rfl, hb⟩
      refine hK.out _ _ ?_ (fun hHeldBx => ?_)
      · obtain ⟨q0, q1, q2, q3, q4, q5, q6, q7⟩ := hHeldB
        exact ⟨keep_cell hb q0, keep_cell hb q1, keep_cell hb q2, keep_cell hb q3, keep_cell hb q4, keep_cell hb q5, below_next q6 hb q7, le_next q7 hb⟩
      clear hK K hb hHeldB
      (try simp only [Act.put, List.setIfInBounds_toArray, List.set_cons_zero, List.set_cons_succ])
      refine wpAnyH_ready (rs := [13]) (by kernel_rfl) (by simp) ?_
      refine AllReadyH.cons (o := { dst := some 61, op := Op.call { callee := Callee.value (Operand.func 15), args := #[Operand.tmp 58, Operand.tmp 60], argTypes := #[26, 26] }, type := 4, pos := "more.go:44", after := #[{ on := 10, ground := Ground.data }, { on := 12, ground := Ground.data }, { on := 12, ground := Ground.chain }, { on := 9, ground := Ground.guard }], guard := some (9, true) }) rfl (fun K hK => ?_) AllReadyH.nil
      go_simp
      with_reducible refine (HRf.out _ _ _ _).mono ?_
      rintro e w' ⟨rfl, hb⟩
      refine hK.out _ _ ?_ (fun hHeldBxx => ?_)
      · obtain ⟨q0, q1, q2, q3, q4, q5, q6, q7⟩ := hHeldBx
        exact ⟨keep_cell hb q0, keep_cell hb q1, keep_cell hb q2, keep_cell hb q3, keep_cell hb q4, keep_cell hb q5, below_next q6 hb q7, le_next q7 hb⟩
      clear hK K hb hHeldBx
      (try simp only [Act.put, List.setIfInBounds_toArray, List.set_cons_zero, List.set_cons_succ])
      refine wpAnyH_take (i := 14) (oi := { dst := some 62, op := Op.unOp UnOp.not 4 (Operand.tmp 61), type := 4, pos := "more.go:44", after := #[{ on := 13, ground := Ground.data }, { on := 9, ground := Ground.guard }], guard := some (9, true) }) (v := ?_) rfl (by kernel_rfl) (by kernel_rfl) (by kernel_rfl) (fun _ _ _ h => h) (Or.inl ⟨by rfl, ?hyB14⟩) (by assumption) ?_
      case hyB14 => (intro w hSw; (try dsimp only at hSw); go_simp; try with_reducible rfl)
      (try simp only [Act.put, List.setIfInBounds_toArray, List.set_cons_zero, List.set_cons_succ])
      refine wpAnyH_take (i := 15) (oi := { dst := some 63, op := Op.pick (Operand.tmp 57) (Operand.tmp 62) (Operand.const (Value.bool false)), type := 4, pos := "more.go:44", after := #[{ on := 9, ground := Ground.data }, { on := 14, ground := Ground.data }, { on := 6, ground := Ground.guard }], guard := some (6, false) }) (v := ?_) rfl (by kernel_rfl) (by kernel_rfl) (by kernel_rfl) (fun _ _ _ h => h) (Or.inl ⟨by rfl, ?hyB15⟩) (by assumption) ?_
      case hyB15 => (intro w hSw; (try dsimp only at hSw); go_simp; try with_reducible rfl)
      (try simp only [Act.put, List.setIfInBounds_toArray, List.set_cons_zero, List.set_cons_succ])
      refine wpAnyH_take (i := 16) (oi := { dst := some 64, op := Op.pick (Operand.tmp 54) (Operand.const (Value.bool true)) (Operand.tmp 63), type := 4, pos := "more.go:44", after := #[{ on := 6, ground := Ground.data }, { on := 15, ground := Ground.data }], guard := none }) (v := ?_) rfl (by kernel_rfl) (by kernel_rfl) (by kernel_rfl) (fun _ _ _ h => h) (Or.inl ⟨by rfl, ?hyB16⟩) (by assumption) ?_
      case hyB16 => (intro w hSw; (try dsimp only at hSw); go_simp; try with_reducible rfl)
      (try simp only [Act.put, List.setIfInBounds_toArray, List.set_cons_zero, List.set_cons_succ])
      refine wpAnyH_take (i := 17) (oi := { dst := some 65, op := Op.move (Operand.tmp 64), type := 4, pos := "more.go:44", after := #[{ on := 16, ground := Ground.data }, { on := 13, ground := Ground.chain }], guard := none }) (v := ?_) rfl (by kernel_rfl) (by kernel_rfl) (by kernel_rfl) (fun _ _ _ h => h) (Or.inl ⟨by rfl, ?hyB17⟩) (by assumption) ?_
      case hyB17 => (intro w hSw; (try dsimp only at hSw); go_simp; try with_reducible rfl)
      (try simp only [Act.put, List.setIfInBounds_toArray, List.set_cons_zero, List.set_cons_succ])
      refine wpAnyH_take (i := 18) (oi := { dst := some 66, op := Op.move (Operand.tmp 6), type := 27, pos := "more.go:44", after := #[{ on := 17, ground := Ground.guard }], guard := some (17, false) }) (v := ?_) rfl (by kernel_rfl) (by kernel_rfl) (by kernel_rfl) (fun _ _ _ h => h) (Or.inl ⟨by rfl, ?hyB18⟩) (by assumption) ?_
      case hyB18 => (intro w hSw; (try dsimp only at hSw); go_simp; try with_reducible rfl)
      (try simp only [Act.put, List.setIfInBounds_toArray, List.set_cons_zero, List.set_cons_succ])
      refine wpAnyH_take (i := 19) (oi := { dst := some 67, op := Op.binOp BinOp.neq 3 (Operand.tmp 66) (Operand.const (Value.int IntKind.i64 0)) 3, type := 4, pos := "more.go:44", after := #[{ on := 18, ground := Ground.data }, { on := 17, ground := Ground.guard }], guard := some (17, false) }) (v := ?_) rfl (by kernel_rfl) (by kernel_rfl) (by kernel_rfl) (fun _ _ _ h => h) (Or.inl ⟨by rfl, ?hyB19⟩) (by assumption) ?_
      case hyB19 => (intro w hSw; (try dsimp only at hSw); go_simp; try with_reducible rfl)
      (try simp only [Act.put, List.setIfInBounds_toArray, List.set_cons_zero, List.set_cons_succ])
      refine wpAnyH_take (i := 20) (oi := { dst := some 68, op := Op.move (Operand.tmp 67), type := 4, pos := "more.go:44", after := #[{ on := 19, ground := Ground.data }, { on := 17, ground := Ground.chain }, { on := 17, ground := Ground.guard }], guard := some (17, false) }) (v := ?_) rfl (by kernel_rfl) (by kernel_rfl) (by kernel_rfl) (fun _ _ _ h => h) (Or.inl ⟨by rfl, ?hyB20⟩) (by assumption) ?_
      case hyB20 => (intro w hSw; (try dsimp only at hSw); go_simp; try with_reducible rfl)
      (try simp only [Act.put, List.setIfInBounds_toArray, List.set_cons_zero, List.set_cons_succ])
      refine wpAnyH_take (i := 21) (oi := { dst := some 69, op := Op.move (Operand.tmp 6), type := 27, pos := "more.go:44", after := #[{ on := 20, ground := Ground.guard }], guard := some (20, true) }) (v := undef) rfl (by kernel_rfl) (by kernel_rfl) (by kernel_rfl) (fun _ _ _ h => h) (Or.inr ⟨by rfl, rfl⟩) (by assumption) ?_
      (try simp only [Act.put, List.setIfInBounds_toArray, List.set_cons_zero, List.set_cons_succ])
      refine wpAnyH_take (i := 22) (oi := { dst := some 70, op := Op.binOp BinOp.neq 3 (Operand.tmp 69) (Operand.const (Value.int IntKind.i64 4)) 3, type := 4, pos := "more.go:44", after := #[{ on := 21, ground := Ground.data }, { on := 20, ground := Ground.guard }], guard := some (20, true) }) (v := undef) rfl (by kernel_rfl) (by kernel_rfl) (by kernel_rfl) (fun _ _ _ h => h) (Or.inr ⟨by rfl, rfl⟩) (by assumption) ?_
      (try simp only [Act.put, List.setIfInBounds_toArray, List.set_cons_zero, List.set_cons_succ])
      refine wpAnyH_take (i := 23) (oi := { dst := some 71, op := Op.pick (Operand.tmp 68) (Operand.tmp 70) (Operand.const (Value.bool false)), type := 4, pos := "more.go:44", after := #[{ on := 20, ground := Ground.data }, { on := 22, ground := Ground.data }, { on := 17, ground := Ground.guard }], guard := some (17, false) }) (v := ?_) rfl (by kernel_rfl) (by kernel_rfl) (by kernel_rfl) (fun _ _ _ h => h) (Or.inl ⟨by rfl, ?hyB23⟩) (by assumption) ?_
      case hyB23 => (intro w hSw; (try dsimp only at hSw); go_simp; try with_reducible rfl)
      (try simp only [Act.put, List.setIfInBounds_toArray, List.set_cons_zero, List.set_cons_succ])
      refine wpAnyH_take (i := 24) (oi := { dst := some 72, op := Op.pick (Operand.tmp 65) (Operand.const (Value.bool true)) (Operand.tmp 71), type := 4, pos := "more.go:44", after := #[{ on := 17, ground := Ground.data }, { on := 23, ground := Ground.data }], guard := none }) (v := ?_) rfl (by kernel_rfl) (by kernel_rfl) (by kernel_rfl) (fun _ _ _ h => h) (Or.inl ⟨by rfl, ?hyB24⟩) (by assumption) ?_
      case hyB24 => (intro w hSw; (try dsimp only at hSw); go_simp; try with_reducible rfl)
      (try simp only [Act.put, List.setIfInBounds_toArray, List.set_cons_zero, List.set_cons_succ])
      refine wpAnyH_done (by kernel_rfl) ?_ _
      obtain ⟨_, _, _, _, _, _, hbl, _⟩ := hHeldBxx
      go_wp2
      go_ret
      exact ⟨rfl, hbl⟩

set_option maxHeartbeats 8000000 in
set_option maxRecDepth 100000 in
theorem texts_c (ao : Option Addr) (N cap : Nat) (L : List Val) (w : World) (h1 : 1 ≤ N) (h2 : N ≤ 20) (hN : L.length = N) (hv : IsVals w ao L) (hw : ∀ v ∈ L, v.wide) (hy : ¬ 40 < (catL L).length) (hs : symB (catS L) = false) (ht : TabW w) :
    Calls Tryd.prog 7 #[.slice ao N cap] w fun e w' => e = .returned (.bool true) ∧ Below w.heap.size w w' := by
  have HT : Hid (TabW w) := ht
  have HV : Hid (IsVals w ao L) := hv
  have HW : Hid (∀ v ∈ L, v.wide) := hw
  have HN : Hid (L.length = N) := hN
  have h1' : ((N : Int) == 0) = false := by simp; omega
  have h2' : ¬ (20 : Int) < (N : Int) := by omega
  have HRf : Hid (∀ (k i : Int) (s : ByteArray) (w : World), Calls Tryd.prog 15 #[.agg #[.int .i64 (k), .int .i64 (i), .string (s)], .agg #[.int .i64 (k), .int .i64 (i), .string (s)]] w fun e w' => e = .returned (.bool true) ∧ Below w.heap.size w w') := by
    intro k i s w; rw [← sameB_refl k i s]; exact rsame_any k i k i s s w
  have Hy : Hid (¬ 40 < (catL L).length) := hy
  have Hs : Hid (symB (catS L) = false) := hs
  clear hy hs
  clear ht hv hw hN
  go_enter Tryd.func7, Tryd.ntmps7
  go_wp2_with fail
  refine (known6 _ HT.out).mono ?_
  rintro e w1 ⟨rfl, hb1⟩
  have b1 : Hid (Below w.heap.size w w1) := hb1
  clear hb1
  go_wp2
  go_loopw [3, 4] (fun x y wr => ∃ (n : Nat) (X : ByteArray), n ≤ N ∧ y = .int .i64 n ∧ x = .string X ∧ Hid (X.data.toList = catL (L.take n)) ∧ Hid (∀ u ∈ L.take n, rightV u) ∧ Hid (Below w.heap.size w wr)) (fun _ y _ => N - (intOf y).toNat)
  case atStart => exact ⟨0, _, Nat.zero_le _, rfl, rfl, rfl, fun u hu => by simp at hu, b1⟩
  case round =>
    obtain ⟨n, X, hn, rfl, rfl, HX, HF, HWr⟩ := hrel
    clear b1
    have hxs : X.size ≤ 100000 := by
      have h3 := catL_len (L := L.take n) HF.out
      have h4 : (L.take n).length ≤ N := by rw [List.length_take, HN.out]; omega
      rw [Lib.size_eq, HX.out]
      omega
    by_cases hlt : n < N
    · have hki : (n : Int) < (N : Int) := by omega
      obtain ⟨v, HG⟩ : ∃ v, Hid (L[n]? = some v) := ⟨_, List.getElem?_eq_getElem (by rw [HN.out]; exact hlt)⟩
      obtain ⟨b, o, rfl, c0, c1, c2⟩ := (HV.out.next HWr.out) n v HG.out
      have Hz : Hid (v.s.size ≤ 9223372036854775807) := tx_size HW.out HG.out
      have Hvi : Hid (inB v.i = true) := (HW.out v (List.mem_of_getElem? HG.out)).2.1
      obtain ⟨q, HQ⟩ : ∃ q, Hid (rightB v.k v.i v.s = q) := ⟨_, rfl⟩
      have hrt : Hid (∀ w : World, Calls Tryd.prog 10 #[.agg #[.int .i64 (v.k), .int .i64 (v.i), .string (v.s)]] w fun e w' => e = .returned (.bool q) ∧ Below w.heap.size w w') := by
        intro w; rw [← HQ.out]; exact brright_any v.k v.i v.s w Hz.out
      obtain ⟨vk, vi, vs⟩ := v
      go_wp2_with fail
      refine (hrt.out _).mono ?_
      rintro e w2 ⟨rfl, hb2⟩
      have b2 : Hid (Below w.heap.size w w2) := next_trans' HWr.out hb2
      have d0 := keep_cell hb2 c0
      have d1 := keep_cell hb2 c1
      have d2 := keep_cell hb2 c2
      clear hb2 hrt c0 c1 c2
      cases q
      · go_wp2
        go_ret
        exact ⟨rfl, b2.out⟩
      · have Hrv : Hid (rightV ⟨vk, vi, vs⟩) := ⟨HQ.out, Hvi.out⟩
        have HF2 : Hid (∀ u ∈ L.take (n + 1), rightV u) := tx_take HG.out HF.out Hrv.out
        obtain ⟨T, HTx⟩ : ∃ T : ByteArray, Hid (T = ⟨(plainL ⟨vk, vi, vs⟩).toArray⟩) := ⟨_, rfl⟩
        have HTs : Hid (T.size = (plainL ⟨vk, vi, vs⟩).length) := by rw [Hid, HTx.out]; rfl
        have ht1 : T.size ≤ 1000 := by rw [HTs.out]; exact plainL_len Hrv.out
        have HX2 : Hid ((X ++ T).data.toList = catL (L.take (n + 1))) := by rw [Hid, ba_app, HX.out, HTx.out, catL_take L n _ HG.out]
        go_wp2_with fail
        refine (rplain_any vk vi vs T _ (right_kind Hrv.out.1) (right_bd Hrv.out) Hrv.out.2 HTx.out).mono ?_
        rintro e w3 ⟨rfl, hb3⟩
        have b3 : Hid (Below w.heap.size w w3) := next_trans' b2.out hb3
        clear hb3
        go_wp2
        go_roundw
        case rel => exact ⟨n + 1, _, by omega, by go_num, rfl, HX2, HF2, b3⟩
        case measure => simp [intOf]; omega
    · have hki : ¬ (n : Int) < (N : Int) := by omega
      have HR : Hid (∀ v ∈ L, rightV v) := tx_right (by rw [HN.out]; omega) HF.out
      have HXe : Hid (catS L = X) := by
        rw [Hid]
        apply ba_ext
        rw [HX.out, List.take_of_length_le (by rw [HN.out]; omega)]
        rfl
      have HXl : Hid ((catL L).length = X.size) := by rw [Hid, ← HXe.out]; rfl
      have HTr : Hid (TabW wr) := tab_next HT.out HWr.out
      have HVr : Hid (IsVals wr ao L) := HV.out.next HWr.out
      have Hn : Hid (N ≤ 100) := by rw [Hid]; omega
      have HA1 : Hid (applyR (code ⟨#[115, 116, 114, 45, 99, 97, 116]⟩) L = strcatR L) := tx_str
      have HA2 : Hid (applyR (code ⟨#[115, 121, 109, 45, 99, 97, 116]⟩) L = symcatR L) := tx_sym (by rw [HN.out]; exact h1)
      clear HF hlt hn HX
      have hX : X.size ≤ 40 := by rw [← HXl.out]; have := Hy.out; omega
      have HE1 : Hid (strcatR L = (⟨3, 0, X⟩, 0)) := by unfold strcatR; rw [Hid, if_neg (by have := Hy.out; omega), HXe.out]
      have Hsy : Hid (symB X = false) := by rw [Hid, ← HXe.out]; exact Hs.out
      have HQr : Hid (∀ w : World, Calls Tryd.prog 10 #[.agg #[.int .i64 (2), .int .i64 (0), .string (X)]] w fun e w' => e = .returned (.bool false) ∧ Below w.heap.size w w') := by
        intro w
        have h := brright_any 2 0 X w (by omega)
        have e : rightB 2 0 X = false := by rw [right_sym, Hsy.out]; rfl
        rw [e] at h
        exact h
      have HE2 : Hid (symcatR L = (⟨0, 0, ⟨#[]⟩⟩, 2)) := by unfold symcatR; rw [Hid, if_neg Hy.out, if_neg (by rw [Hs.out]; decide)]; rfl
      have l1 : decide ((X.size : Int) ≤ 1000) = true := decide_eq_true (by omega)
      have l2 : decide (X.size ≤ 1000) = true := decide_eq_true (by omega)
      have l3 : ¬ (40 : Int) < (X.size : Int) := by omega
      clear hX
      go_wp2_with fail
      refine (apply_any ⟨#[115, 116, 114, 45, 99, 97, 116]⟩ 3 0 0 X ao cap N L _ HN.out Hn.out HVr.out HR.out HTr.out (HA1.out.trans HE1.out)).mono ?_
      rintro e w2 ⟨rfl, hb2⟩
      have b2 : Hid (Below w.heap.size w w2) := next_trans' HWr.out hb2
      obtain ⟨x1, Hx1⟩ : ∃ x1, w2.heap.size = x1 := ⟨_, rfl⟩
      have HV2 : Hid (IsVals (w2.alloc (.cells #[.int .i64 3, .int .i64 0, .string X] 26)) ao L) := (HVr.out.next hb2).next (alloc_below' _ _)
      have HT2 : Hid (TabW (w2.alloc (.cells #[.int .i64 3, .int .i64 0, .string X] 26))) := tab_alloc (tab_next HTr.out hb2)
      have g0 : Hid ((w2.alloc (.cells #[.int .i64 3, .int .i64 0, .string X] 26)).cell? ⟨x1, 0, none⟩ = some (.int .i64 3)) := box_cell Hx1.symm rfl
      have g1 : Hid ((w2.alloc (.cells #[.int .i64 3, .int .i64 0, .string X] 26)).cell? ⟨x1, 1, none⟩ = some (.int .i64 0)) := box_cell Hx1.symm rfl
      have g2 : Hid ((w2.alloc (.cells #[.int .i64 3, .int .i64 0, .string X] 26)).cell? ⟨x1, 2, none⟩ = some (.string X)) := box_cell Hx1.symm rfl
      clear hb2 HVr HTr
      go_wp2_with fail
      refine (apply_any ⟨#[115, 121, 109, 45, 99, 97, 116]⟩ 0 0 2 ⟨#[]⟩ ao cap N L _ HN.out Hn.out HV2.out HR.out HT2.out (HA2.out.trans HE2.out)).mono ?_
      rintro e w3 ⟨rfl, hb3⟩
      obtain ⟨x2, Hx2⟩ : ∃ x2, w3.heap.size = x2 := ⟨_, rfl⟩
      obtain ⟨W, HWe⟩ : ∃ W, W = w3.alloc (.cells #[.int .i64 0, .int .i64 0, .string ⟨#[]⟩] 26) := ⟨_, rfl⟩
      have ga0 : W.drew.cell? ⟨x1, 0, none⟩ = some (.int .i64 3) := by rw [HWe]; exact alloc_cell (keep_cell hb3 g0.out)
      have ga1 : W.drew.cell? ⟨x1, 1, none⟩ = some (.int .i64 0) := by rw [HWe]; exact alloc_cell (keep_cell hb3 g1.out)
      have ga2 : W.drew.cell? ⟨x1, 2, none⟩ = some (.string X) := by rw [HWe]; exact alloc_cell (keep_cell hb3 g2.out)
      have gb0 : W.drew.cell? ⟨x2, 0, none⟩ = some (.int .i64 0) := by rw [HWe]; exact box_cell Hx2.symm rfl
      have gb1 : W.drew.cell? ⟨x2, 1, none⟩ = some (.int .i64 0) := by rw [HWe]; exact box_cell Hx2.symm rfl
      have gb2 : W.drew.cell? ⟨x2, 2, none⟩ = some (.string ⟨#[]⟩) := by rw [HWe]; exact box_cell Hx2.symm rfl
      have s0 : Below w.heap.size w W.drew := by rw [HWe]; exact (next_trans' (next_trans' (next_trans' b2.out (alloc_below' _ _)) hb3) (alloc_below' _ _)).drew
      have s1 : w.heap.size ≤ W.drew.heap.size := s0.size
      clear hb3 HV2 HT2 b2 g0 g1 g2 HR HA1 HA2 HE1 HE2 HWr HT HV HW
      go_wp2_with fail
      rw [← HWe]
      clear HWe
      refine wp_region_held_drew (S := (fun w' => w'.cell? ⟨x1, 0, none⟩ = some (.int .i64 3) ∧ w'.cell? ⟨x1, 1, none⟩ = some (.int .i64 0) ∧ w'.cell? ⟨x1, 2, none⟩ = some (.string X) ∧ w'.cell? ⟨x2, 0, none⟩ = some (.int .i64 0) ∧ w'.cell? ⟨x2, 1, none⟩ = some (.int .i64 0) ∧ w'.cell? ⟨x2, 2, none⟩ = some (.string ⟨#[]⟩) ∧ Below w.heap.size w w' ∧ w.heap.size ≤ w'.heap.size)) (by kernel_rfl) ?_ (fun hHeldC => ?_)
      · exact ⟨ga0, ga1, ga2, gb0, gb1, gb2, s0, s1⟩
      refine wpAnyH_take (i := 0) (oi := { dst := some 48, op := Op.move (Operand.tmp 6), type := 27, pos := "more.go:44", after := #[], guard := none }) (v := ?_) rfl (by kernel_rfl) (by kernel_rfl) (by kernel_rfl) (fun _ _ _ h => h) (Or.inl ⟨by rfl, ?hyC0⟩) (by assumption) ?_
      case hyC0 => (intro w hSw; (try dsimp only at hSw); go_simp; try with_reducible rfl)
      (try simp only [Act.put, List.setIfInBounds_toArray, List.set_cons_zero, List.set_cons_succ])
      refine wpAnyH_take (i := 1) (oi := { dst := some 49, op := Op.binOp BinOp.eql 3 (Operand.tmp 48) (Operand.const (Value.int IntKind.i64 0)) 3, type := 4, pos := "more.go:44", after := #[{ on := 0, ground := Ground.data }], guard := none }) (v := ?_) rfl (by kernel_rfl) (by kernel_rfl) (by kernel_rfl) (fun _ _ _ h => h) (Or.inl ⟨by rfl, ?hyC1⟩) (by assumption) ?_
      case hyC1 => (intro w hSw; (try dsimp only at hSw); go_simp; try with_reducible rfl)
      (try simp only [Act.put, List.setIfInBounds_toArray, List.set_cons_zero, List.set_cons_succ])
      refine wpAnyH_take (i := 2) (oi := { dst := some 50, op := Op.move (Operand.tmp 3), type := 9, pos := "more.go:44", after := #[], guard := none }) (v := ?_) rfl (by kernel_rfl) (by kernel_rfl) (by kernel_rfl) (fun _ _ _ h => h) (Or.inl ⟨by rfl, ?hyC2⟩) (by assumption) ?_
      case hyC2 => (intro w hSw; (try dsimp only at hSw); go_simp; try with_reducible rfl)
      (try simp only [Act.put, List.setIfInBounds_toArray, List.set_cons_zero, List.set_cons_succ])
      refine wpAnyH_take (i := 3) (oi := { dst := some 51, op := Op.call { callee := Callee.builtin Builtin.len, args := #[Operand.tmp 50], argTypes := #[9] }, type := 3, pos := "more.go:44", after := #[{ on := 2, ground := Ground.data }], guard := none }) (v := ?_) rfl (by kernel_rfl) (by kernel_rfl) (by kernel_rfl) (fun _ _ _ h => h) (Or.inl ⟨by rfl, ?hyC3⟩) (by assumption) ?_
      case hyC3 => (intro w hSw; (try dsimp only at hSw); go_simp; try with_reducible rfl)
      (try simp only [Act.put, List.setIfInBounds_toArray, List.set_cons_zero, List.set_cons_succ])
      refine wpAnyH_take (i := 4) (oi := { dst := some 52, op := Op.binOp BinOp.leq 3 (Operand.tmp 51) (Operand.const (Value.int IntKind.i64 1000)) 3, type := 4, pos := "more.go:44", after := #[{ on := 3, ground := Ground.data }], guard := none }) (v := ?_) rfl (by kernel_rfl) (by kernel_rfl) (by kernel_rfl) (fun _ _ _ h => h) (Or.inl ⟨by rfl, ?hyC4⟩) (by assumption) ?_
      case hyC4 => (intro w hSw; (try dsimp only at hSw); go_simp; try with_reducible rfl)
      (try simp only [Act.put, List.setIfInBounds_toArray, List.set_cons_zero, List.set_cons_succ])
      refine wpAnyH_take (i := 5) (oi := { dst := some 53, op := Op.binOp BinOp.neq 4 (Operand.tmp 49) (Operand.tmp 52) 4, type := 4, pos := "more.go:44", after := #[{ on := 1, ground := Ground.data }, { on := 4, ground := Ground.data }], guard := none }) (v := ?_) rfl (by kernel_rfl) (by kernel_rfl) (by kernel_rfl) (fun _ _ _ h => h) (Or.inl ⟨by rfl, ?hyC5⟩) (by assumption) ?_
      case hyC5 => (intro w hSw; (try dsimp only at hSw); go_simp; try with_reducible rfl)
      (try simp only [Act.put, List.setIfInBounds_toArray, List.set_cons_zero, List.set_cons_succ])
      refine wpAnyH_take (i := 6) (oi := { dst := some 54, op := Op.move (Operand.tmp 53), type := 4, pos := "more.go:44", after := #[{ on := 5, ground := Ground.data }], guard := none }) (v := ?_) rfl (by kernel_rfl) (by kernel_rfl) (by kernel_rfl) (fun _ _ _ h => h) (Or.inl ⟨by rfl, ?hyC6⟩) (by assumption) ?_
      case hyC6 => (intro w hSw; (try dsimp only at hSw); go_simp; try with_reducible rfl)
      (try simp only [Act.put, List.setIfInBounds_toArray, List.set_cons_zero, List.set_cons_succ])
      refine wpAnyH_take (i := 7) (oi := { dst := some 55, op := Op.move (Operand.tmp 6), type := 27, pos := "more.go:44", after := #[{ on := 6, ground := Ground.guard }], guard := some (6, false) }) (v := ?_) rfl (by kernel_rfl) (by kernel_rfl) (by kernel_rfl) (fun _ _ _ h => h) (Or.inl ⟨by rfl, ?hyC7⟩) (by assumption) ?_
      case hyC7 => (intro w hSw; (try dsimp only at hSw); go_simp; try with_reducible rfl)
      (try simp only [Act.put, List.setIfInBounds_toArray, List.set_cons_zero, List.set_cons_succ])
      refine wpAnyH_take (i := 8) (oi := { dst := some 56, op := Op.binOp BinOp.eql 3 (Operand.tmp 55) (Operand.const (Value.int IntKind.i64 0)) 3, type := 4, pos := "more.go:44", after := #[{ on := 7, ground := Ground.data }, { on := 6, ground := Ground.guard }], guard := some (6, false) }) (v := ?_) rfl (by kernel_rfl) (by kernel_rfl) (by kernel_rfl) (fun _ _ _ h => h) (Or.inl ⟨by rfl, ?hyC8⟩) (by assumption) ?_
      case hyC8 => (intro w hSw; (try dsimp only at hSw); go_simp; try with_reducible rfl)
      (try simp only [Act.put, List.setIfInBounds_toArray, List.set_cons_zero, List.set_cons_succ])
      refine wpAnyH_take (i := 9) (oi := { dst := some 57, op := Op.move (Operand.tmp 56), type := 4, pos := "more.go:44", after := #[{ on := 8, ground := Ground.data }, { on := 6, ground := Ground.chain }, { on := 6, ground := Ground.guard }], guard := some (6, false) }) (v := ?_) rfl (by kernel_rfl) (by kernel_rfl) (by kernel_rfl) (fun _ _ _ h => h) (Or.inl ⟨by rfl, ?hyC9⟩) (by assumption) ?_
      case hyC9 => (intro w hSw; (try dsimp only at hSw); go_simp; try with_reducible rfl)
      (try simp only [Act.put, List.setIfInBounds_toArray, List.set_cons_zero, List.set_cons_succ])
      refine wpAnyH_take (i := 10) (oi := { dst := some 58, op := Op.load 26 (Operand.tmp 5), type := 26, pos := "more.go:44", after := #[{ on := 9, ground := Ground.guard }], guard := some (9, true) }) (v := ?_) rfl (by kernel_rfl) (by kernel_rfl) (by kernel_rfl) (fun _ _ _ h => h) (Or.inl ⟨by rfl, ?hyC10⟩) (by assumption) ?_
      case hyC10 => (intro w hSw; (try dsimp only at hSw); go_simp; try with_reducible rfl)
      (try simp only [Act.put, List.setIfInBounds_toArray, List.set_cons_zero, List.set_cons_succ])
      refine wpAnyH_take (i := 11) (oi := { dst := some 59, op := Op.move (Operand.tmp 3), type := 9, pos := "more.go:44", after := #[{ on := 9, ground := Ground.guard }], guard := some (9, true) }) (v := ?_) rfl (by kernel_rfl) (by kernel_rfl) (by kernel_rfl) (fun _ _ _ h => h) (Or.inl ⟨by rfl, ?hyC11⟩) (by assumption) ?_
      case hyC11 => (intro w hSw; (try dsimp only at hSw); go_simp; try with_reducible rfl)
      (try simp only [Act.put, List.setIfInBounds_toArray, List.set_cons_zero, List.set_cons_succ])
      refine wpAnyH_ready (rs := [12]) (by kernel_rfl) (by simp) ?_
      refine AllReadyH.cons (o := { dst := some 60, op := Op.call { callee := Callee.value (Operand.func 23), args := #[Operand.tmp 59], argTypes := #[9] }, type := 26, pos := "more.go:44", after := #[{ on := 11, ground := Ground.data }, { on := 9, ground := Ground.chain }, { on := 9, ground := Ground.guard }], guard := some (9, true) }) rfl (fun K hK => ?_) AllReadyH.nil
      go_simp
      with_reducible refine (rstr_any _ _).mono ?_
      rintro e w' ⟨rfl, hb⟩
      refine hK.out _ _ ?_ (fun hHeldCx => ?_)
      · obtain ⟨q0, q1, q2, q3, q4, q5, q6, q7⟩ := hHeldC
        exact ⟨keep_cell hb q0, keep_cell hb q1, keep_cell hb q2, keep_cell hb q3, keep_cell hb q4, keep_cell hb q5, below_next q6 hb q7, le_next q7 hb⟩
      clear hK K hb hHeldC
      (try simp only [Act.put, List.setIfInBounds_toArray, List.set_cons_zero, List.set_cons_succ])
      refine wpAnyH_ready (rs := [13]) (by kernel_rfl) (by simp) ?_
      refine AllReadyH.cons (o := { dst := some 61, op := Op.call { callee := Callee.value (Operand.func 15), args := #[Operand.tmp 58, Operand.tmp 60], argTypes := #[26, 26] }, type := 4, pos := "more.go:44", after := #[{ on := 10, ground := Ground.data }, { on := 12, ground := Ground.data }, { on := 12, ground := Ground.chain }, { on := 9, ground := Ground.guard }], guard := some (9, true) }) rfl (fun K hK => ?_) AllReadyH.nil
      go_simp
      with_reducible refine (HRf.out _ _ _ _).mono ?_
      rintro e w' ⟨rfl, hb⟩
      refine hK.out _ _ ?_ (fun hHeldCxx => ?_)
      · obtain ⟨q0, q1, q2, q3, q4, q5, q6, q7⟩ := hHeldCx
        exact ⟨keep_cell hb q0, keep_cell hb q1, keep_cell hb q2, keep_cell hb q3, keep_cell hb q4, keep_cell hb q5, below_next q6 hb q7, le_next q7 hb⟩
      clear hK K hb hHeldCx
      (try simp only [Act.put, List.setIfInBounds_toArray, List.set_cons_zero, List.set_cons_succ])
      refine wpAnyH_take (i := 14) (oi := { dst := some 62, op := Op.unOp UnOp.not 4 (Operand.tmp 61), type := 4, pos := "more.go:44", after := #[{ on := 13, ground := Ground.data }, { on := 9, ground := Ground.guard }], guard := some (9, true) }) (v := ?_) rfl (by kernel_rfl) (by kernel_rfl) (by kernel_rfl) (fun _ _ _ h => h) (Or.inl ⟨by rfl, ?hyC14⟩) (by assumption) ?_
      case hyC14 => (intro w hSw; (try dsimp only at hSw); go_simp; try with_reducible rfl)
      (try simp only [Act.put, List.setIfInBounds_toArray, List.set_cons_zero, List.set_cons_succ])
      refine wpAnyH_take (i := 15) (oi := { dst := some 63, op := Op.pick (Operand.tmp 57) (Operand.tmp 62) (Operand.const (Value.bool false)), type := 4, pos := "more.go:44", after := #[{ on := 9, ground := Ground.data }, { on := 14, ground := Ground.data }, { on := 6, ground := Ground.guard }], guard := some (6, false) }) (v := ?_) rfl (by kernel_rfl) (by kernel_rfl) (by kernel_rfl) (fun _ _ _ h => h) (Or.inl ⟨by rfl, ?hyC15⟩) (by assumption) ?_
      case hyC15 => (intro w hSw; (try dsimp only at hSw); go_simp; try with_reducible rfl)
      (try simp only [Act.put, List.setIfInBounds_toArray, List.set_cons_zero, List.set_cons_succ])
      refine wpAnyH_take (i := 16) (oi := { dst := some 64, op := Op.pick (Operand.tmp 54) (Operand.const (Value.bool true)) (Operand.tmp 63), type := 4, pos := "more.go:44", after := #[{ on := 6, ground := Ground.data }, { on := 15, ground := Ground.data }], guard := none }) (v := ?_) rfl (by kernel_rfl) (by kernel_rfl) (by kernel_rfl) (fun _ _ _ h => h) (Or.inl ⟨by rfl, ?hyC16⟩) (by assumption) ?_
      case hyC16 => (intro w hSw; (try dsimp only at hSw); go_simp; try with_reducible rfl)
      (try simp only [Act.put, List.setIfInBounds_toArray, List.set_cons_zero, List.set_cons_succ])
      refine wpAnyH_take (i := 17) (oi := { dst := some 65, op := Op.move (Operand.tmp 64), type := 4, pos := "more.go:44", after := #[{ on := 16, ground := Ground.data }, { on := 13, ground := Ground.chain }], guard := none }) (v := ?_) rfl (by kernel_rfl) (by kernel_rfl) (by kernel_rfl) (fun _ _ _ h => h) (Or.inl ⟨by rfl, ?hyC17⟩) (by assumption) ?_
      case hyC17 => (intro w hSw; (try dsimp only at hSw); go_simp; try with_reducible rfl)
      (try simp only [Act.put, List.setIfInBounds_toArray, List.set_cons_zero, List.set_cons_succ])
      refine wpAnyH_take (i := 18) (oi := { dst := some 66, op := Op.move (Operand.tmp 6), type := 27, pos := "more.go:44", after := #[{ on := 17, ground := Ground.guard }], guard := some (17, false) }) (v := ?_) rfl (by kernel_rfl) (by kernel_rfl) (by kernel_rfl) (fun _ _ _ h => h) (Or.inl ⟨by rfl, ?hyC18⟩) (by assumption) ?_
      case hyC18 => (intro w hSw; (try dsimp only at hSw); go_simp; try with_reducible rfl)
      (try simp only [Act.put, List.setIfInBounds_toArray, List.set_cons_zero, List.set_cons_succ])
      refine wpAnyH_take (i := 19) (oi := { dst := some 67, op := Op.binOp BinOp.neq 3 (Operand.tmp 66) (Operand.const (Value.int IntKind.i64 0)) 3, type := 4, pos := "more.go:44", after := #[{ on := 18, ground := Ground.data }, { on := 17, ground := Ground.guard }], guard := some (17, false) }) (v := ?_) rfl (by kernel_rfl) (by kernel_rfl) (by kernel_rfl) (fun _ _ _ h => h) (Or.inl ⟨by rfl, ?hyC19⟩) (by assumption) ?_
      case hyC19 => (intro w hSw; (try dsimp only at hSw); go_simp; try with_reducible rfl)
      (try simp only [Act.put, List.setIfInBounds_toArray, List.set_cons_zero, List.set_cons_succ])
      refine wpAnyH_take (i := 20) (oi := { dst := some 68, op := Op.move (Operand.tmp 67), type := 4, pos := "more.go:44", after := #[{ on := 19, ground := Ground.data }, { on := 17, ground := Ground.chain }, { on := 17, ground := Ground.guard }], guard := some (17, false) }) (v := ?_) rfl (by kernel_rfl) (by kernel_rfl) (by kernel_rfl) (fun _ _ _ h => h) (Or.inl ⟨by rfl, ?hyC20⟩) (by assumption) ?_
      case hyC20 => (intro w hSw; (try dsimp only at hSw); go_simp; try with_reducible rfl)
      (try simp only [Act.put, List.setIfInBounds_toArray, List.set_cons_zero, List.set_cons_succ])
      refine wpAnyH_take (i := 21) (oi := { dst := some 69, op := Op.move (Operand.tmp 6), type := 27, pos := "more.go:44", after := #[{ on := 20, ground := Ground.guard }], guard := some (20, true) }) (v := undef) rfl (by kernel_rfl) (by kernel_rfl) (by kernel_rfl) (fun _ _ _ h => h) (Or.inr ⟨by rfl, rfl⟩) (by assumption) ?_
      (try simp only [Act.put, List.setIfInBounds_toArray, List.set_cons_zero, List.set_cons_succ])
      refine wpAnyH_take (i := 22) (oi := { dst := some 70, op := Op.binOp BinOp.neq 3 (Operand.tmp 69) (Operand.const (Value.int IntKind.i64 4)) 3, type := 4, pos := "more.go:44", after := #[{ on := 21, ground := Ground.data }, { on := 20, ground := Ground.guard }], guard := some (20, true) }) (v := undef) rfl (by kernel_rfl) (by kernel_rfl) (by kernel_rfl) (fun _ _ _ h => h) (Or.inr ⟨by rfl, rfl⟩) (by assumption) ?_
      (try simp only [Act.put, List.setIfInBounds_toArray, List.set_cons_zero, List.set_cons_succ])
      refine wpAnyH_take (i := 23) (oi := { dst := some 71, op := Op.pick (Operand.tmp 68) (Operand.tmp 70) (Operand.const (Value.bool false)), type := 4, pos := "more.go:44", after := #[{ on := 20, ground := Ground.data }, { on := 22, ground := Ground.data }, { on := 17, ground := Ground.guard }], guard := some (17, false) }) (v := ?_) rfl (by kernel_rfl) (by kernel_rfl) (by kernel_rfl) (fun _ _ _ h => h) (Or.inl ⟨by rfl, ?hyC23⟩) (by assumption) ?_
      case hyC23 => (intro w hSw; (try dsimp only at hSw); go_simp; try with_reducible rfl)
      (try simp only [Act.put, List.setIfInBounds_toArray, List.set_cons_zero, List.set_cons_succ])
      refine wpAnyH_take (i := 24) (oi := { dst := some 72, op := Op.pick (Operand.tmp 65) (Operand.const (Value.bool true)) (Operand.tmp 71), type := 4, pos := "more.go:44", after := #[{ on := 17, ground := Ground.data }, { on := 23, ground := Ground.data }], guard := none }) (v := ?_) rfl (by kernel_rfl) (by kernel_rfl) (by kernel_rfl) (fun _ _ _ h => h) (Or.inl ⟨by rfl, ?hyC24⟩) (by assumption) ?_
      case hyC24 => (intro w hSw; (try dsimp only at hSw); go_simp; try with_reducible rfl)
      (try simp only [Act.put, List.setIfInBounds_toArray, List.set_cons_zero, List.set_cons_succ])
      refine wpAnyH_done (by kernel_rfl) ?_ _
      obtain ⟨_, _, _, _, _, _, hbl, _⟩ := hHeldCxx
      go_wp2_with fail
      refine (rsym_any X _).mono ?_
      rintro e w6 ⟨rfl, hb6⟩
      go_wp2_with fail
      refine (HQr.out _).mono ?_
      rintro e w7 ⟨rfl, hb7⟩
      go_wp2
      go_ret
      exact ⟨rfl, next_trans' (next_trans' hbl hb6) hb7⟩

set_option maxHeartbeats 8000000 in
set_option maxRecDepth 100000 in
theorem texts_d (ao : Option Addr) (N cap : Nat) (L : List Val) (w : World) (h1 : 1 ≤ N) (h2 : N ≤ 20) (hN : L.length = N) (hv : IsVals w ao L) (hw : ∀ v ∈ L, v.wide) (hy : ¬ 40 < (catL L).length) (hs : symB (catS L) = true) (ht : TabW w) :
    Calls Tryd.prog 7 #[.slice ao N cap] w fun e w' => e = .returned (.bool true) ∧ Below w.heap.size w w' := by
  have HT : Hid (TabW w) := ht
  have HV : Hid (IsVals w ao L) := hv
  have HW : Hid (∀ v ∈ L, v.wide) := hw
  have HN : Hid (L.length = N) := hN
  have h1' : ((N : Int) == 0) = false := by simp; omega
  have h2' : ¬ (20 : Int) < (N : Int) := by omega
  have HRf : Hid (∀ (k i : Int) (s : ByteArray) (w : World), Calls Tryd.prog 15 #[.agg #[.int .i64 (k), .int .i64 (i), .string (s)], .agg #[.int .i64 (k), .int .i64 (i), .string (s)]] w fun e w' => e = .returned (.bool true) ∧ Below w.heap.size w w') := by
    intro k i s w; rw [← sameB_refl k i s]; exact rsame_any k i k i s s w
  have Hy : Hid (¬ 40 < (catL L).length) := hy
  have Hs : Hid (symB (catS L) = true) := hs
  clear hy hs
  clear ht hv hw hN
  go_enter Tryd.func7, Tryd.ntmps7
  go_wp2_with fail
  refine (known6 _ HT.out).mono ?_
  rintro e w1 ⟨rfl, hb1⟩
  have b1 : Hid (Below w.heap.size w w1) := hb1
  clear hb1
  go_wp2
  go_loopw [3, 4] (fun x y wr => ∃ (n : Nat) (X : ByteArray), n ≤ N ∧ y = .int .i64 n ∧ x = .string X ∧ Hid (X.data.toList = catL (L.take n)) ∧ Hid (∀ u ∈ L.take n, rightV u) ∧ Hid (Below w.heap.size w wr)) (fun _ y _ => N - (intOf y).toNat)
  case atStart => exact ⟨0, _, Nat.zero_le _, rfl, rfl, rfl, fun u hu => by simp at hu, b1⟩
  case round =>
    obtain ⟨n, X, hn, rfl, rfl, HX, HF, HWr⟩ := hrel
    clear b1
    have hxs : X.size ≤ 100000 := by
      have h3 := catL_len (L := L.take n) HF.out
      have h4 : (L.take n).length ≤ N := by rw [List.length_take, HN.out]; omega
      rw [Lib.size_eq, HX.out]
      omega
    by_cases hlt : n < N
    · have hki : (n : Int) < (N : Int) := by omega
      obtain ⟨v, HG⟩ : ∃ v, Hid (L[n]? = some v) := ⟨_, List.getElem?_eq_getElem (by rw [HN.out]; exact hlt)⟩
      obtain ⟨b, o, rfl, c0, c1, c2⟩ := (HV.out.next HWr.out) n v HG.out
      have Hz : Hid (v.s.size ≤ 9223372036854775807) := tx_size HW.out HG.out
      have Hvi : Hid (inB v.i = true) := (HW.out v (List.mem_of_getElem? HG.out)).2.1
      obtain ⟨q, HQ⟩ : ∃ q, Hid (rightB v.k v.i v.s = q) := ⟨_, rfl⟩
      have hrt : Hid (∀ w : World, Calls Tryd.prog 10 #[.agg #[.int .i64 (v.k), .int .i64 (v.i), .string (v.s)]] w fun e w' => e = .returned (.bool q) ∧ Below w.heap.size w w') := by
        intro w; rw [← HQ.out]; exact brright_any v.k v.i v.s w Hz.out
      obtain ⟨vk, vi, vs⟩ := v
      go_wp2_with fail
      refine (hrt.out _).mono ?_
      rintro e w2 ⟨rfl, hb2⟩
      have b2 : Hid (Below w.heap.size w w2) := next_trans' HWr.out hb2
      have d0 := keep_cell hb2 c0
      have d1 := keep_cell hb2 c1
      have d2 := keep_cell hb2 c2
      clear hb2 hrt c0 c1 c2
      cases q
      · go_wp2
        go_ret
        exact ⟨rfl, b2.out⟩
      · have Hrv : Hid (rightV ⟨vk, vi, vs⟩) := ⟨HQ.out, Hvi.out⟩
        have HF2 : Hid (∀ u ∈ L.take (n + 1), rightV u) := tx_take HG.out HF.out Hrv.out
        obtain ⟨T, HTx⟩ : ∃ T : ByteArray, Hid (T = ⟨(plainL ⟨vk, vi, vs⟩).toArray⟩) := ⟨_, rfl⟩
        have HTs : Hid (T.size = (plainL ⟨vk, vi, vs⟩).length) := by rw [Hid, HTx.out]; rfl
        have ht1 : T.size ≤ 1000 := by rw [HTs.out]; exact plainL_len Hrv.out
        have HX2 : Hid ((X ++ T).data.toList = catL (L.take (n + 1))) := by rw [Hid, ba_app, HX.out, HTx.out, catL_take L n _ HG.out]
        go_wp2_with fail
        refine (rplain_any vk vi vs T _ (right_kind Hrv.out.1) (right_bd Hrv.out) Hrv.out.2 HTx.out).mono ?_
        rintro e w3 ⟨rfl, hb3⟩
        have b3 : Hid (Below w.heap.size w w3) := next_trans' b2.out hb3
        clear hb3
        go_wp2
        go_roundw
        case rel => exact ⟨n + 1, _, by omega, by go_num, rfl, HX2, HF2, b3⟩
        case measure => simp [intOf]; omega
    · have hki : ¬ (n : Int) < (N : Int) := by omega
      have HR : Hid (∀ v ∈ L, rightV v) := tx_right (by rw [HN.out]; omega) HF.out
      have HXe : Hid (catS L = X) := by
        rw [Hid]
        apply ba_ext
        rw [HX.out, List.take_of_length_le (by rw [HN.out]; omega)]
        rfl
      have HXl : Hid ((catL L).length = X.size) := by rw [Hid, ← HXe.out]; rfl
      have HTr : Hid (TabW wr) := tab_next HT.out HWr.out
      have HVr : Hid (IsVals wr ao L) := HV.out.next HWr.out
      have Hn : Hid (N ≤ 100) := by rw [Hid]; omega
      have HA1 : Hid (applyR (code ⟨#[115, 116, 114, 45, 99, 97, 116]⟩) L = strcatR L) := tx_str
      have HA2 : Hid (applyR (code ⟨#[115, 121, 109, 45, 99, 97, 116]⟩) L = symcatR L) := tx_sym (by rw [HN.out]; exact h1)
      clear HF hlt hn HX
      have hX : X.size ≤ 40 := by rw [← HXl.out]; have := Hy.out; omega
      have HE1 : Hid (strcatR L = (⟨3, 0, X⟩, 0)) := by unfold strcatR; rw [Hid, if_neg (by have := Hy.out; omega), HXe.out]
      have Hsy : Hid (symB X = true) := by rw [Hid, ← HXe.out]; exact Hs.out
      have HQr : Hid (∀ w : World, Calls Tryd.prog 10 #[.agg #[.int .i64 (2), .int .i64 (0), .string (X)]] w fun e w' => e = .returned (.bool true) ∧ Below w.heap.size w w') := by
        intro w
        have h := brright_any 2 0 X w (by omega)
        have e : rightB 2 0 X = true := by rw [right_sym, Hsy.out]; rfl
        rw [e] at h
        exact h
      have HE2 : Hid (symcatR L = (⟨2, 0, X⟩, 0)) := by unfold symcatR; rw [Hid, if_neg Hy.out, if_pos Hs.out, HXe.out]
      have l1 : decide ((X.size : Int) ≤ 1000) = true := decide_eq_true (by omega)
      have l2 : decide (X.size ≤ 1000) = true := decide_eq_true (by omega)
      have l3 : ¬ (40 : Int) < (X.size : Int) := by omega
      clear hX
      go_wp2_with fail
      refine (apply_any ⟨#[115, 116, 114, 45, 99, 97, 116]⟩ 3 0 0 X ao cap N L _ HN.out Hn.out HVr.out HR.out HTr.out (HA1.out.trans HE1.out)).mono ?_
      rintro e w2 ⟨rfl, hb2⟩
      have b2 : Hid (Below w.heap.size w w2) := next_trans' HWr.out hb2
      obtain ⟨x1, Hx1⟩ : ∃ x1, w2.heap.size = x1 := ⟨_, rfl⟩
      have HV2 : Hid (IsVals (w2.alloc (.cells #[.int .i64 3, .int .i64 0, .string X] 26)) ao L) := (HVr.out.next hb2).next (alloc_below' _ _)
      have HT2 : Hid (TabW (w2.alloc (.cells #[.int .i64 3, .int .i64 0, .string X] 26))) := tab_alloc (tab_next HTr.out hb2)
      have g0 : Hid ((w2.alloc (.cells #[.int .i64 3, .int .i64 0, .string X] 26)).cell? ⟨x1, 0, none⟩ = some (.int .i64 3)) := box_cell Hx1.symm rfl
      have g1 : Hid ((w2.alloc (.cells #[.int .i64 3, .int .i64 0, .string X] 26)).cell? ⟨x1, 1, none⟩ = some (.int .i64 0)) := box_cell Hx1.symm rfl
      have g2 : Hid ((w2.alloc (.cells #[.int .i64 3, .int .i64 0, .string X] 26)).cell? ⟨x1, 2, none⟩ = some (.string X)) := box_cell Hx1.symm rfl
      clear hb2 HVr HTr
      go_wp2_with fail
      refine (apply_any ⟨#[115, 121, 109, 45, 99, 97, 116]⟩ 2 0 0 X ao cap N L _ HN.out Hn.out HV2.out HR.out HT2.out (HA2.out.trans HE2.out)).mono ?_
      rintro e w3 ⟨rfl, hb3⟩
      obtain ⟨x2, Hx2⟩ : ∃ x2, w3.heap.size = x2 := ⟨_, rfl⟩
      obtain ⟨W, HWe⟩ : ∃ W, W = w3.alloc (.cells #[.int .i64 2, .int .i64 0, .string X] 26) := ⟨_, rfl⟩
      have ga0 : W.drew.cell? ⟨x1, 0, none⟩ = some (.int .i64 3) := by rw [HWe]; exact alloc_cell (keep_cell hb3 g0.out)
      have ga1 : W.drew.cell? ⟨x1, 1, none⟩ = some (.int .i64 0) := by rw [HWe]; exact alloc_cell (keep_cell hb3 g1.out)
      have ga2 : W.drew.cell? ⟨x1, 2, none⟩ = some (.string X) := by rw [HWe]; exact alloc_cell (keep_cell hb3 g2.out)
      have gb0 : W.drew.cell? ⟨x2, 0, none⟩ = some (.int .i64 2) := by rw [HWe]; exact box_cell Hx2.symm rfl
      have gb1 : W.drew.cell? ⟨x2, 1, none⟩ = some (.int .i64 0) := by rw [HWe]; exact box_cell Hx2.symm rfl
      have gb2 : W.drew.cell? ⟨x2, 2, none⟩ = some (.string X) := by rw [HWe]; exact box_cell Hx2.symm rfl
      have s0 : Below w.heap.size w W.drew := by rw [HWe]; exact (next_trans' (next_trans' (next_trans' b2.out (alloc_below' _ _)) hb3) (alloc_below' _ _)).drew
      have s1 : w.heap.size ≤ W.drew.heap.size := s0.size
      clear hb3 HV2 HT2 b2 g0 g1 g2 HR HA1 HA2 HE1 HE2 HWr HT HV HW
      go_wp2_with fail
      rw [← HWe]
      clear HWe
      refine wp_region_held_drew (S := (fun w' => w'.cell? ⟨x1, 0, none⟩ = some (.int .i64 3) ∧ w'.cell? ⟨x1, 1, none⟩ = some (.int .i64 0) ∧ w'.cell? ⟨x1, 2, none⟩ = some (.string X) ∧ w'.cell? ⟨x2, 0, none⟩ = some (.int .i64 2) ∧ w'.cell? ⟨x2, 1, none⟩ = some (.int .i64 0) ∧ w'.cell? ⟨x2, 2, none⟩ = some (.string X) ∧ Below w.heap.size w w' ∧ w.heap.size ≤ w'.heap.size)) (by kernel_rfl) ?_ (fun hHeldD => ?_)
      · exact ⟨ga0, ga1, ga2, gb0, gb1, gb2, s0, s1⟩
      refine wpAnyH_take (i := 0) (oi := { dst := some 48, op := Op.move (Operand.tmp 6), type := 27, pos := "more.go:44", after := #[], guard := none }) (v := ?_) rfl (by kernel_rfl) (by kernel_rfl) (by kernel_rfl) (fun _ _ _ h => h) (Or.inl ⟨by rfl, ?hyD0⟩) (by assumption) ?_
      case hyD0 => (intro w hSw; (try dsimp only at hSw); go_simp; try with_reducible rfl)
      (try simp only [Act.put, List.setIfInBounds_toArray, List.set_cons_zero, List.set_cons_succ])
      refine wpAnyH_take (i := 1) (oi := { dst := some 49, op := Op.binOp BinOp.eql 3 (Operand.tmp 48) (Operand.const (Value.int IntKind.i64 0)) 3, type := 4, pos := "more.go:44", after := #[{ on := 0, ground := Ground.data }], guard := none }) (v := ?_) rfl (by kernel_rfl) (by kernel_rfl) (by kernel_rfl) (fun _ _ _ h => h) (Or.inl ⟨by rfl, ?hyD1⟩) (by assumption) ?_
      case hyD1 => (intro w hSw; (try dsimp only at hSw); go_simp; try with_reducible rfl)
      (try simp only [Act.put, List.setIfInBounds_toArray, List.set_cons_zero, List.set_cons_succ])
      refine wpAnyH_take (i := 2) (oi := { dst := some 50, op := Op.move (Operand.tmp 3), type := 9, pos := "more.go:44", after := #[], guard := none }) (v := ?_) rfl (by kernel_rfl) (by kernel_rfl) (by kernel_rfl) (fun _ _ _ h => h) (Or.inl ⟨by rfl, ?hyD2⟩) (by assumption) ?_
      case hyD2 => (intro w hSw; (try dsimp only at hSw); go_simp; try with_reducible rfl)
      (try simp only [Act.put, List.setIfInBounds_toArray, List.set_cons_zero, List.set_cons_succ])
      refine wpAnyH_take (i := 3) (oi := { dst := some 51, op := Op.call { callee := Callee.builtin Builtin.len, args := #[Operand.tmp 50], argTypes := #[9] }, type := 3, pos := "more.go:44", after := #[{ on := 2, ground := Ground.data }], guard := none }) (v := ?_) rfl (by kernel_rfl) (by kernel_rfl) (by kernel_rfl) (fun _ _ _ h => h) (Or.inl ⟨by rfl, ?hyD3⟩) (by assumption) ?_
      case hyD3 => (intro w hSw; (try dsimp only at hSw); go_simp; try with_reducible rfl)
      (try simp only [Act.put, List.setIfInBounds_toArray, List.set_cons_zero, List.set_cons_succ])
      refine wpAnyH_take (i := 4) (oi := { dst := some 52, op := Op.binOp BinOp.leq 3 (Operand.tmp 51) (Operand.const (Value.int IntKind.i64 1000)) 3, type := 4, pos := "more.go:44", after := #[{ on := 3, ground := Ground.data }], guard := none }) (v := ?_) rfl (by kernel_rfl) (by kernel_rfl) (by kernel_rfl) (fun _ _ _ h => h) (Or.inl ⟨by rfl, ?hyD4⟩) (by assumption) ?_
      case hyD4 => (intro w hSw; (try dsimp only at hSw); go_simp; try with_reducible rfl)
      (try simp only [Act.put, List.setIfInBounds_toArray, List.set_cons_zero, List.set_cons_succ])
      refine wpAnyH_take (i := 5) (oi := { dst := some 53, op := Op.binOp BinOp.neq 4 (Operand.tmp 49) (Operand.tmp 52) 4, type := 4, pos := "more.go:44", after := #[{ on := 1, ground := Ground.data }, { on := 4, ground := Ground.data }], guard := none }) (v := ?_) rfl (by kernel_rfl) (by kernel_rfl) (by kernel_rfl) (fun _ _ _ h => h) (Or.inl ⟨by rfl, ?hyD5⟩) (by assumption) ?_
      case hyD5 => (intro w hSw; (try dsimp only at hSw); go_simp; try with_reducible rfl)
      (try simp only [Act.put, List.setIfInBounds_toArray, List.set_cons_zero, List.set_cons_succ])
      refine wpAnyH_take (i := 6) (oi := { dst := some 54, op := Op.move (Operand.tmp 53), type := 4, pos := "more.go:44", after := #[{ on := 5, ground := Ground.data }], guard := none }) (v := ?_) rfl (by kernel_rfl) (by kernel_rfl) (by kernel_rfl) (fun _ _ _ h => h) (Or.inl ⟨by rfl, ?hyD6⟩) (by assumption) ?_
      case hyD6 => (intro w hSw; (try dsimp only at hSw); go_simp; try with_reducible rfl)
      (try simp only [Act.put, List.setIfInBounds_toArray, List.set_cons_zero, List.set_cons_succ])
      refine wpAnyH_take (i := 7) (oi := { dst := some 55, op := Op.move (Operand.tmp 6), type := 27, pos := "more.go:44", after := #[{ on := 6, ground := Ground.guard }], guard := some (6, false) }) (v := ?_) rfl (by kernel_rfl) (by kernel_rfl) (by kernel_rfl) (fun _ _ _ h => h) (Or.inl ⟨by rfl, ?hyD7⟩) (by assumption) ?_
      case hyD7 => (intro w hSw; (try dsimp only at hSw); go_simp; try with_reducible rfl)
      (try simp only [Act.put, List.setIfInBounds_toArray, List.set_cons_zero, List.set_cons_succ])
      refine wpAnyH_take (i := 8) (oi := { dst := some 56, op := Op.binOp BinOp.eql 3 (Operand.tmp 55) (Operand.const (Value.int IntKind.i64 0)) 3, type := 4, pos := "more.go:44", after := #[{ on := 7, ground := Ground.data }, { on := 6, ground := Ground.guard }], guard := some (6, false) }) (v := ?_) rfl (by kernel_rfl) (by kernel_rfl) (by kernel_rfl) (fun _ _ _ h => h) (Or.inl ⟨by rfl, ?hyD8⟩) (by assumption) ?_
      case hyD8 => (intro w hSw; (try dsimp only at hSw); go_simp; try with_reducible rfl)
      (try simp only [Act.put, List.setIfInBounds_toArray, List.set_cons_zero, List.set_cons_succ])
      refine wpAnyH_take (i := 9) (oi := { dst := some 57, op := Op.move (Operand.tmp 56), type := 4, pos := "more.go:44", after := #[{ on := 8, ground := Ground.data }, { on := 6, ground := Ground.chain }, { on := 6, ground := Ground.guard }], guard := some (6, false) }) (v := ?_) rfl (by kernel_rfl) (by kernel_rfl) (by kernel_rfl) (fun _ _ _ h => h) (Or.inl ⟨by rfl, ?hyD9⟩) (by assumption) ?_
      case hyD9 => (intro w hSw; (try dsimp only at hSw); go_simp; try with_reducible rfl)
      (try simp only [Act.put, List.setIfInBounds_toArray, List.set_cons_zero, List.set_cons_succ])
      refine wpAnyH_take (i := 10) (oi := { dst := some 58, op := Op.load 26 (Operand.tmp 5), type := 26, pos := "more.go:44", after := #[{ on := 9, ground := Ground.guard }], guard := some (9, true) }) (v := ?_) rfl (by kernel_rfl) (by kernel_rfl) (by kernel_rfl) (fun _ _ _ h => h) (Or.inl ⟨by rfl, ?hyD10⟩) (by assumption) ?_
      case hyD10 => (intro w hSw; (try dsimp only at hSw); go_simp; try with_reducible rfl)
      (try simp only [Act.put, List.setIfInBounds_toArray, List.set_cons_zero, List.set_cons_succ])
      refine wpAnyH_take (i := 11) (oi := { dst := some 59, op := Op.move (Operand.tmp 3), type := 9, pos := "more.go:44", after := #[{ on := 9, ground := Ground.guard }], guard := some (9, true) }) (v := ?_) rfl (by kernel_rfl) (by kernel_rfl) (by kernel_rfl) (fun _ _ _ h => h) (Or.inl ⟨by rfl, ?hyD11⟩) (by assumption) ?_
      case hyD11 => (intro w hSw; (try dsimp only at hSw); go_simp; try with_reducible rfl)
      (try simp only [Act.put, List.setIfInBounds_toArray, List.set_cons_zero, List.set_cons_succ])
      refine wpAnyH_ready (rs := [12]) (by kernel_rfl) (by simp) ?_
      refine AllReadyH.cons (o := { dst := some 60, op := Op.call { callee := Callee.value (Operand.func 23), args := #[Operand.tmp 59], argTypes := #[9] }, type := 26, pos := "more.go:44", after := #[{ on := 11, ground := Ground.data }, { on := 9, ground := Ground.chain }, { on := 9, ground := Ground.guard }], guard := some (9, true) }) rfl (fun K hK => ?_) AllReadyH.nil
      go_simp
      with_reducible refine (rstr_any _ _).mono ?_
      rintro e w' ⟨rfl, hb⟩
      refine hK.out _ _ ?_ (fun hHeldDx => ?_)
      · obtain ⟨q0, q1, q2, q3, q4, q5, q6, q7⟩ := hHeldD
        exact ⟨keep_cell hb q0, keep_cell hb q1, keep_cell hb q2, keep_cell hb q3, keep_cell hb q4, keep_cell hb q5, below_next q6 hb q7, le_next q7 hb⟩
      clear hK K hb hHeldD
      (try simp only [Act.put, List.setIfInBounds_toArray, List.set_cons_zero, List.set_cons_succ])
      refine wpAnyH_ready (rs := [13]) (by kernel_rfl) (by simp) ?_
      refine AllReadyH.cons (o := { dst := some 61, op := Op.call { callee := Callee.value (Operand.func 15), args := #[Operand.tmp 58, Operand.tmp 60], argTypes := #[26, 26] }, type := 4, pos := "more.go:44", after := #[{ on := 10, ground := Ground.data }, { on := 12, ground := Ground.data }, { on := 12, ground := Ground.chain }, { on := 9, ground := Ground.guard }], guard := some (9, true) }) rfl (fun K hK => ?_) AllReadyH.nil
      go_simp
      with_reducible refine (HRf.out _ _ _ _).mono ?_
      rintro e w' ⟨rfl, hb⟩
      refine hK.out _ _ ?_ (fun hHeldDxx => ?_)
      · obtain ⟨q0, q1, q2, q3, q4, q5, q6, q7⟩ := hHeldDx
        exact ⟨keep_cell hb q0, keep_cell hb q1, keep_cell hb q2, keep_cell hb q3, keep_cell hb q4, keep_cell hb q5, below_next q6 hb q7, le_next q7 hb⟩
      clear hK K hb hHeldDx
      (try simp only [Act.put, List.setIfInBounds_toArray, List.set_cons_zero, List.set_cons_succ])
      refine wpAnyH_take (i := 14) (oi := { dst := some 62, op := Op.unOp UnOp.not 4 (Operand.tmp 61), type := 4, pos := "more.go:44", after := #[{ on := 13, ground := Ground.data }, { on := 9, ground := Ground.guard }], guard := some (9, true) }) (v := ?_) rfl (by kernel_rfl) (by kernel_rfl) (by kernel_rfl) (fun _ _ _ h => h) (Or.inl ⟨by rfl, ?hyD14⟩) (by assumption) ?_
      case hyD14 => (intro w hSw; (try dsimp only at hSw); go_simp; try with_reducible rfl)
      (try simp only [Act.put, List.setIfInBounds_toArray, List.set_cons_zero, List.set_cons_succ])
      refine wpAnyH_take (i := 15) (oi := { dst := some 63, op := Op.pick (Operand.tmp 57) (Operand.tmp 62) (Operand.const (Value.bool false)), type := 4, pos := "more.go:44", after := #[{ on := 9, ground := Ground.data }, { on := 14, ground := Ground.data }, { on := 6, ground := Ground.guard }], guard := some (6, false) }) (v := ?_) rfl (by kernel_rfl) (by kernel_rfl) (by kernel_rfl) (fun _ _ _ h => h) (Or.inl ⟨by rfl, ?hyD15⟩) (by assumption) ?_
      case hyD15 => (intro w hSw; (try dsimp only at hSw); go_simp; try with_reducible rfl)
      (try simp only [Act.put, List.setIfInBounds_toArray, List.set_cons_zero, List.set_cons_succ])
      refine wpAnyH_take (i := 16) (oi := { dst := some 64, op := Op.pick (Operand.tmp 54) (Operand.const (Value.bool true)) (Operand.tmp 63), type := 4, pos := "more.go:44", after := #[{ on := 6, ground := Ground.data }, { on := 15, ground := Ground.data }], guard := none }) (v := ?_) rfl (by kernel_rfl) (by kernel_rfl) (by kernel_rfl) (fun _ _ _ h => h) (Or.inl ⟨by rfl, ?hyD16⟩) (by assumption) ?_
      case hyD16 => (intro w hSw; (try dsimp only at hSw); go_simp; try with_reducible rfl)
      (try simp only [Act.put, List.setIfInBounds_toArray, List.set_cons_zero, List.set_cons_succ])
      refine wpAnyH_take (i := 17) (oi := { dst := some 65, op := Op.move (Operand.tmp 64), type := 4, pos := "more.go:44", after := #[{ on := 16, ground := Ground.data }, { on := 13, ground := Ground.chain }], guard := none }) (v := ?_) rfl (by kernel_rfl) (by kernel_rfl) (by kernel_rfl) (fun _ _ _ h => h) (Or.inl ⟨by rfl, ?hyD17⟩) (by assumption) ?_
      case hyD17 => (intro w hSw; (try dsimp only at hSw); go_simp; try with_reducible rfl)
      (try simp only [Act.put, List.setIfInBounds_toArray, List.set_cons_zero, List.set_cons_succ])
      refine wpAnyH_take (i := 18) (oi := { dst := some 66, op := Op.move (Operand.tmp 6), type := 27, pos := "more.go:44", after := #[{ on := 17, ground := Ground.guard }], guard := some (17, false) }) (v := ?_) rfl (by kernel_rfl) (by kernel_rfl) (by kernel_rfl) (fun _ _ _ h => h) (Or.inl ⟨by rfl, ?hyD18⟩) (by assumption) ?_
      case hyD18 => (intro w hSw; (try dsimp only at hSw); go_simp; try with_reducible rfl)
      (try simp only [Act.put, List.setIfInBounds_toArray, List.set_cons_zero, List.set_cons_succ])
      refine wpAnyH_take (i := 19) (oi := { dst := some 67, op := Op.binOp BinOp.neq 3 (Operand.tmp 66) (Operand.const (Value.int IntKind.i64 0)) 3, type := 4, pos := "more.go:44", after := #[{ on := 18, ground := Ground.data }, { on := 17, ground := Ground.guard }], guard := some (17, false) }) (v := ?_) rfl (by kernel_rfl) (by kernel_rfl) (by kernel_rfl) (fun _ _ _ h => h) (Or.inl ⟨by rfl, ?hyD19⟩) (by assumption) ?_
      case hyD19 => (intro w hSw; (try dsimp only at hSw); go_simp; try with_reducible rfl)
      (try simp only [Act.put, List.setIfInBounds_toArray, List.set_cons_zero, List.set_cons_succ])
      refine wpAnyH_take (i := 20) (oi := { dst := some 68, op := Op.move (Operand.tmp 67), type := 4, pos := "more.go:44", after := #[{ on := 19, ground := Ground.data }, { on := 17, ground := Ground.chain }, { on := 17, ground := Ground.guard }], guard := some (17, false) }) (v := ?_) rfl (by kernel_rfl) (by kernel_rfl) (by kernel_rfl) (fun _ _ _ h => h) (Or.inl ⟨by rfl, ?hyD20⟩) (by assumption) ?_
      case hyD20 => (intro w hSw; (try dsimp only at hSw); go_simp; try with_reducible rfl)
      (try simp only [Act.put, List.setIfInBounds_toArray, List.set_cons_zero, List.set_cons_succ])
      refine wpAnyH_take (i := 21) (oi := { dst := some 69, op := Op.move (Operand.tmp 6), type := 27, pos := "more.go:44", after := #[{ on := 20, ground := Ground.guard }], guard := some (20, true) }) (v := undef) rfl (by kernel_rfl) (by kernel_rfl) (by kernel_rfl) (fun _ _ _ h => h) (Or.inr ⟨by rfl, rfl⟩) (by assumption) ?_
      (try simp only [Act.put, List.setIfInBounds_toArray, List.set_cons_zero, List.set_cons_succ])
      refine wpAnyH_take (i := 22) (oi := { dst := some 70, op := Op.binOp BinOp.neq 3 (Operand.tmp 69) (Operand.const (Value.int IntKind.i64 4)) 3, type := 4, pos := "more.go:44", after := #[{ on := 21, ground := Ground.data }, { on := 20, ground := Ground.guard }], guard := some (20, true) }) (v := undef) rfl (by kernel_rfl) (by kernel_rfl) (by kernel_rfl) (fun _ _ _ h => h) (Or.inr ⟨by rfl, rfl⟩) (by assumption) ?_
      (try simp only [Act.put, List.setIfInBounds_toArray, List.set_cons_zero, List.set_cons_succ])
      refine wpAnyH_take (i := 23) (oi := { dst := some 71, op := Op.pick (Operand.tmp 68) (Operand.tmp 70) (Operand.const (Value.bool false)), type := 4, pos := "more.go:44", after := #[{ on := 20, ground := Ground.data }, { on := 22, ground := Ground.data }, { on := 17, ground := Ground.guard }], guard := some (17, false) }) (v := ?_) rfl (by kernel_rfl) (by kernel_rfl) (by kernel_rfl) (fun _ _ _ h => h) (Or.inl ⟨by rfl, ?hyD23⟩) (by assumption) ?_
      case hyD23 => (intro w hSw; (try dsimp only at hSw); go_simp; try with_reducible rfl)
      (try simp only [Act.put, List.setIfInBounds_toArray, List.set_cons_zero, List.set_cons_succ])
      refine wpAnyH_take (i := 24) (oi := { dst := some 72, op := Op.pick (Operand.tmp 65) (Operand.const (Value.bool true)) (Operand.tmp 71), type := 4, pos := "more.go:44", after := #[{ on := 17, ground := Ground.data }, { on := 23, ground := Ground.data }], guard := none }) (v := ?_) rfl (by kernel_rfl) (by kernel_rfl) (by kernel_rfl) (fun _ _ _ h => h) (Or.inl ⟨by rfl, ?hyD24⟩) (by assumption) ?_
      case hyD24 => (intro w hSw; (try dsimp only at hSw); go_simp; try with_reducible rfl)
      (try simp only [Act.put, List.setIfInBounds_toArray, List.set_cons_zero, List.set_cons_succ])
      refine wpAnyH_done (by kernel_rfl) ?_ _
      obtain ⟨t0, t1, t2, t3, t4, t5, hbl, _⟩ := hHeldDxx
      go_wp2_with fail
      refine (rsym_any X _).mono ?_
      rintro e w6 ⟨rfl, hb6⟩
      go_wp2_with fail
      refine (HQr.out _).mono ?_
      rintro e w7 ⟨rfl, hb7⟩
      have y0 : w7.drew.cell? ⟨x1, 0, none⟩ = some (.int .i64 3) := keep_cell (w2 := w7) hb7 (keep_cell hb6 t0)
      have y1 : w7.drew.cell? ⟨x1, 1, none⟩ = some (.int .i64 0) := keep_cell (w2 := w7) hb7 (keep_cell hb6 t1)
      have y2 : w7.drew.cell? ⟨x1, 2, none⟩ = some (.string X) := keep_cell (w2 := w7) hb7 (keep_cell hb6 t2)
      have y3 : w7.drew.cell? ⟨x2, 0, none⟩ = some (.int .i64 2) := keep_cell (w2 := w7) hb7 (keep_cell hb6 t3)
      have y4 : w7.drew.cell? ⟨x2, 1, none⟩ = some (.int .i64 0) := keep_cell (w2 := w7) hb7 (keep_cell hb6 t4)
      have y5 : w7.drew.cell? ⟨x2, 2, none⟩ = some (.string X) := keep_cell (w2 := w7) hb7 (keep_cell hb6 t5)
      have s2 : Below w.heap.size w w7.drew := (next_trans' (next_trans' hbl hb6) hb7).drew
      have s3 : w.heap.size ≤ w7.drew.heap.size := s2.size
      clear hb6 hb7 t0 t1 t2 t3 t4 t5 hbl
      go_wp2_with fail
      refine wp_region_held_drew (S := (fun w' => w'.cell? ⟨x1, 0, none⟩ = some (.int .i64 3) ∧ w'.cell? ⟨x1, 1, none⟩ = some (.int .i64 0) ∧ w'.cell? ⟨x1, 2, none⟩ = some (.string X) ∧ w'.cell? ⟨x2, 0, none⟩ = some (.int .i64 2) ∧ w'.cell? ⟨x2, 1, none⟩ = some (.int .i64 0) ∧ w'.cell? ⟨x2, 2, none⟩ = some (.string X) ∧ Below w.heap.size w w' ∧ w.heap.size ≤ w'.heap.size)) (by kernel_rfl) ?_ (fun hHeldE => ?_)
      · exact ⟨y0, y1, y2, y3, y4, y5, s2, s3⟩
      refine wpAnyH_take (i := 0) (oi := { dst := some 86, op := Op.move (Operand.tmp 8), type := 27, pos := "more.go:53", after := #[], guard := none }) (v := ?_) rfl (by kernel_rfl) (by kernel_rfl) (by kernel_rfl) (fun _ _ _ h => h) (Or.inl ⟨by rfl, ?hyE0⟩) (by assumption) ?_
      case hyE0 => (intro w hSw; (try dsimp only at hSw); go_simp; try with_reducible rfl)
      (try simp only [Act.put, List.setIfInBounds_toArray, List.set_cons_zero, List.set_cons_succ])
      refine wpAnyH_take (i := 1) (oi := { dst := some 87, op := Op.binOp BinOp.eql 3 (Operand.tmp 86) (Operand.const (Value.int IntKind.i64 0)) 3, type := 4, pos := "more.go:53", after := #[{ on := 0, ground := Ground.data }], guard := none }) (v := ?_) rfl (by kernel_rfl) (by kernel_rfl) (by kernel_rfl) (fun _ _ _ h => h) (Or.inl ⟨by rfl, ?hyE1⟩) (by assumption) ?_
      case hyE1 => (intro w hSw; (try dsimp only at hSw); go_simp; try with_reducible rfl)
      (try simp only [Act.put, List.setIfInBounds_toArray, List.set_cons_zero, List.set_cons_succ])
      refine wpAnyH_take (i := 2) (oi := { dst := some 88, op := Op.move (Operand.tmp 87), type := 4, pos := "more.go:53", after := #[{ on := 1, ground := Ground.data }], guard := none }) (v := ?_) rfl (by kernel_rfl) (by kernel_rfl) (by kernel_rfl) (fun _ _ _ h => h) (Or.inl ⟨by rfl, ?hyE2⟩) (by assumption) ?_
      case hyE2 => (intro w hSw; (try dsimp only at hSw); go_simp; try with_reducible rfl)
      (try simp only [Act.put, List.setIfInBounds_toArray, List.set_cons_zero, List.set_cons_succ])
      refine wpAnyH_take (i := 3) (oi := { dst := some 89, op := Op.load 26 (Operand.tmp 7), type := 26, pos := "more.go:53", after := #[{ on := 2, ground := Ground.guard }], guard := some (2, true) }) (v := ?_) rfl (by kernel_rfl) (by kernel_rfl) (by kernel_rfl) (fun _ _ _ h => h) (Or.inl ⟨by rfl, ?hyE3⟩) (by assumption) ?_
      case hyE3 => (intro w hSw; (try dsimp only at hSw); go_simp; try with_reducible rfl)
      (try simp only [Act.put, List.setIfInBounds_toArray, List.set_cons_zero, List.set_cons_succ])
      refine wpAnyH_take (i := 4) (oi := { dst := some 90, op := Op.move (Operand.tmp 3), type := 9, pos := "more.go:53", after := #[{ on := 2, ground := Ground.guard }], guard := some (2, true) }) (v := ?_) rfl (by kernel_rfl) (by kernel_rfl) (by kernel_rfl) (fun _ _ _ h => h) (Or.inl ⟨by rfl, ?hyE4⟩) (by assumption) ?_
      case hyE4 => (intro w hSw; (try dsimp only at hSw); go_simp; try with_reducible rfl)
      (try simp only [Act.put, List.setIfInBounds_toArray, List.set_cons_zero, List.set_cons_succ])
      refine wpAnyH_ready (rs := [5]) (by kernel_rfl) (by simp) ?_
      refine AllReadyH.cons (o := { dst := some 91, op := Op.call { callee := Callee.value (Operand.func 24), args := #[Operand.tmp 90], argTypes := #[9] }, type := 26, pos := "more.go:53", after := #[{ on := 4, ground := Ground.data }, { on := 2, ground := Ground.chain }, { on := 2, ground := Ground.guard }], guard := some (2, true) }) rfl (fun K hK => ?_) AllReadyH.nil
      go_simp
      with_reducible refine (rsym_any _ _).mono ?_
      rintro e w' ⟨rfl, hb⟩
      refine hK.out _ _ ?_ (fun hHeldEx => ?_)
      · obtain ⟨q0, q1, q2, q3, q4, q5, q6, q7⟩ := hHeldE
        exact ⟨keep_cell hb q0, keep_cell hb q1, keep_cell hb q2, keep_cell hb q3, keep_cell hb q4, keep_cell hb q5, below_next q6 hb q7, le_next q7 hb⟩
      clear hK K hb hHeldE
      (try simp only [Act.put, List.setIfInBounds_toArray, List.set_cons_zero, List.set_cons_succ])
      refine wpAnyH_ready (rs := [6]) (by kernel_rfl) (by simp) ?_
      refine AllReadyH.cons (o := { dst := some 92, op := Op.call { callee := Callee.value (Operand.func 15), args := #[Operand.tmp 89, Operand.tmp 91], argTypes := #[26, 26] }, type := 4, pos := "more.go:53", after := #[{ on := 3, ground := Ground.data }, { on := 5, ground := Ground.data }, { on := 5, ground := Ground.chain }, { on := 2, ground := Ground.guard }], guard := some (2, true) }) rfl (fun K hK => ?_) AllReadyH.nil
      go_simp
      with_reducible refine (HRf.out _ _ _ _).mono ?_
      rintro e w' ⟨rfl, hb⟩
      refine hK.out _ _ ?_ (fun hHeldExx => ?_)
      · obtain ⟨q0, q1, q2, q3, q4, q5, q6, q7⟩ := hHeldEx
        exact ⟨keep_cell hb q0, keep_cell hb q1, keep_cell hb q2, keep_cell hb q3, keep_cell hb q4, keep_cell hb q5, below_next q6 hb q7, le_next q7 hb⟩
      clear hK K hb hHeldEx
      (try simp only [Act.put, List.setIfInBounds_toArray, List.set_cons_zero, List.set_cons_succ])
      refine wpAnyH_take (i := 7) (oi := { dst := some 93, op := Op.pick (Operand.tmp 88) (Operand.tmp 92) (Operand.const (Value.bool false)), type := 4, pos := "more.go:53", after := #[{ on := 2, ground := Ground.data }, { on := 6, ground := Ground.data }], guard := none }) (v := ?_) rfl (by kernel_rfl) (by kernel_rfl) (by kernel_rfl) (fun _ _ _ h => h) (Or.inl ⟨by rfl, ?hyE7⟩) (by assumption) ?_
      case hyE7 => (intro w hSw; (try dsimp only at hSw); go_simp; try with_reducible rfl)
      (try simp only [Act.put, List.setIfInBounds_toArray, List.set_cons_zero, List.set_cons_succ])
      refine wpAnyH_take (i := 8) (oi := { dst := some 2, op := Op.assign (Operand.tmp 93), type := 4, pos := "more.go:53", after := #[{ on := 7, ground := Ground.data }, { on := 6, ground := Ground.chain }, { on := 0, ground := Ground.phase }, { on := 1, ground := Ground.phase }, { on := 2, ground := Ground.phase }, { on := 3, ground := Ground.phase }, { on := 4, ground := Ground.phase }, { on := 5, ground := Ground.phase }, { on := 6, ground := Ground.phase }, { on := 7, ground := Ground.phase }], guard := none }) (v := ?_) rfl (by kernel_rfl) (by kernel_rfl) (by kernel_rfl) (fun _ _ _ h => h) (Or.inl ⟨by rfl, ?hyE8⟩) (by assumption) ?_
      case hyE8 => (intro w hSw; (try dsimp only at hSw); go_simp; try with_reducible rfl)
      (try simp only [Act.put, List.setIfInBounds_toArray, List.set_cons_zero, List.set_cons_succ])
      refine wpAnyH_done (by kernel_rfl) ?_ _
      obtain ⟨_, _, _, _, _, _, hbl, _⟩ := hHeldExx
      go_wp2
      go_ret
      exact ⟨rfl, hbl⟩

theorem texts_walk (ao : Option Addr) (N cap : Nat) (L : List Val) (w : World) (hN : L.length = N) (hv : IsVals w ao L) (hw : ∀ v ∈ L, v.wide) (_ : ao = none → N = 0 ∧ cap = 0) (ht : TabW w) :
    Calls Tryd.prog 7 #[.slice ao N cap] w fun e w' => e = .returned (.bool true) ∧ Below w.heap.size w w' := by
  by_cases h : N = 0 ∨ 20 < N
  · exact texts_out ao N cap w h ht
  by_cases hx : 1000 < (catL L).length
  · exact texts_a ao N cap L w (by omega) (by omega) hN hv hw hx ht
  by_cases hy : 40 < (catL L).length
  · exact texts_b ao N cap L w (by omega) (by omega) hN hv hw hx hy ht
  cases hs : symB (catS L)
  · exact texts_c ao N cap L w (by omega) (by omega) hN hv hw hy hs ht
  · exact texts_d ao N cap L w (by omega) (by omega) hN hv hw hy hs ht
end Go.Proofs.YtfglmfldpmpofaaDoor
