/- Proved: for every number and every slice of numbers the law NumbersFuel returns true, and its arguments read afterwards as before; condition: the library's tables lie as the program's text lays them (tied by the card). -/
import Derived.Test.YtnhgelpfecfmnaaDoorBase
namespace Go.Proofs.YtnhgelpfecfmnaaDoor
open Go.ChangeShapes Go.WideShapes Go.ChangeAt Go.RowKit

/-- What the walk is told of a slice of numbers that came in: it is nil, or it leads to a row of cells that hold numbers. -/
def IsRow (k : IntKind) (w : World) (a : Option Addr) (len cap : Nat) (zs : List Int) : Prop :=
  (a = none ∧ len = 0 ∧ cap = 0 ∧ zs = []) ∨
  ∃ x, a = some x ∧ len ≤ cap ∧ cap ≤ maxLen ∧ zs.length = cap ∧ (∀ i, i < zs.length → w.cell? (x.add i) = some (.int k (zs.getD i 0))) ∧ ∀ n ∈ zs, (Lit.int k n).wf = true

/-- What Use leaves: the fuel's cell holds M; nothing below its block has turned. -/
structure UseW (b : Nat) (M : Int) (w w' : World) : Prop where
  cell : w'.cell? ⟨b, 0, none⟩ = some (.int .i64 M)
  frozen : w'.frozen? ⟨b, 0, none⟩ = false
  below : Below b w w'
theorem setCell_frozen (w : World) (b : Nat) (v : Value) (h : w.frozen? ⟨b, 0, none⟩ = false) : (w.setCell ⟨b, 0, none⟩ v).frozen? ⟨b, 0, none⟩ = false := by simpa using h
theorem useW_set (b : Nat) (L M : Int) (w : World) (hc : w.cell? ⟨b, 0, none⟩ = some (.int .i64 L)) (hf : w.frozen? ⟨b, 0, none⟩ = false) : UseW b M w (w.setCell ⟨b, 0, none⟩ (.int .i64 M)) :=
  ⟨World.cell?_setCell_same _ _ _ hc, setCell_frozen w b _ hf, (Below.refl b w).setCell (p := ⟨b, 0, none⟩) (Nat.le_refl b) _⟩
theorem fuel_arg (b : Nat) (L n : Int) (w : World) (hn : n < 0) (hc : w.cell? ⟨b, 0, none⟩ = some (.int .i64 L)) (hf : w.frozen? ⟨b, 0, none⟩ = false) :
    Calls Tryd.prog 24 #[.pointer (some ⟨b, 0, none⟩), .int .i64 n] w fun e w' => e = .returned (.int .i64 1) ∧ UseW b L w w' :=
  (use_arg b n w hn).mono fun _ _ ⟨h1, h2⟩ => ⟨h1, by rw [h2]; exact ⟨hc, hf, Below.refl _ _⟩⟩
theorem fuel_out (b : Nat) (L n : Int) (w : World) (hn : 0 ≤ n) (hl : L < n) (hc : w.cell? ⟨b, 0, none⟩ = some (.int .i64 L)) (hf : w.frozen? ⟨b, 0, none⟩ = false) :
    Calls Tryd.prog 24 #[.pointer (some ⟨b, 0, none⟩), .int .i64 n] w fun e w' => e = .returned (.int .i64 9) ∧ UseW b 0 w w' :=
  (use_out b L n w hn hl hc hf).mono fun _ _ ⟨h1, h2⟩ => ⟨h1, by rw [h2]; exact useW_set b L 0 w hc hf⟩
theorem fuel_ok (b : Nat) (L n : Int) (w : World) (hn : 0 ≤ n) (hl : n ≤ L) (hL : L ≤ 9223372036854775807) (hc : w.cell? ⟨b, 0, none⟩ = some (.int .i64 L)) (hf : w.frozen? ⟨b, 0, none⟩ = false) :
    Calls Tryd.prog 24 #[.pointer (some ⟨b, 0, none⟩), .int .i64 n] w fun e w' => e = .returned (.int .i64 0) ∧ UseW b (L - n) w w' :=
  (use_ok b L n w hn hl hL hc hf).mono fun _ _ ⟨h1, h2⟩ => ⟨h1, by rw [h2]; exact useW_set b L (L - n) w hc hf⟩

/-- What the law leaves alone: too little or too much fuel, too many uses. -/
theorem fuel_short (left : Int) (a : Option Addr) (len cap : Nat) (w : World) (hlen : (len : Int) ≤ 9223372036854775807) (h : left < 0 ∨ 1099511627776 < left ∨ 60 < (len : Int)) (ht : TabW w) :
    Calls Tryd.prog 5 #[.int .i64 left, .slice a len cap] w fun e w' => e = .returned (.bool true) ∧ Below w.heap.size w w' := by
  have h' : left < 0 ∨ (¬ left < 0 ∧ 1099511627776 < left) ∨ (¬ left < 0 ∧ ¬ 1099511627776 < left ∧ 60 < (len : Int)) := by omega
  clear h
  rcases h' with c1 | ⟨c1, c2⟩ | ⟨c1, c2, c3⟩
  all_goals
    go_enter Tryd.func5, Tryd.ntmps5
    go_wp2_with fail
    refine (known_yes w ht).mono ?_
    rintro e w1 ⟨rfl, hb1⟩
    clear ht
    go_wp2
    go_ret
    exact ⟨rfl, hb1⟩

set_option maxHeartbeats 2000000 in
theorem fuel_run (left : Int) (a0 : Option Addr) (xb xo len cap : Nat) (w : World) (h0 : 0 ≤ left) (h1 : left ≤ 1099511627776) (h2 : len ≤ 60) (ha : len = 0 ∨ a0 = some ⟨xb, xo, none⟩)
    (hcell : ∀ i, i < len → ∃ z, w.cell? ⟨xb, xo + i, none⟩ = some (.int .i64 z)) (ht : TabW w) :
    Calls Tryd.prog 5 #[.int .i64 left, .slice a0 len cap] w fun e w' => e = .returned (.bool true) ∧ Below w.heap.size w w' := by
  have HC : Hid (∀ i, i < len → ∃ z, w.cell? ⟨xb, xo + i, none⟩ = some (.int .i64 z)) := hcell
  have HA : Hid (len = 0 ∨ a0 = some ⟨xb, xo, none⟩) := ha
  clear hcell ha
  have n1 : decide (left < 0) = false := by simp; omega
  have n2 : decide (1099511627776 < left) = false := by simp; omega
  have n3 : decide (60 < (len : Int)) = false := by simp; omega
  go_enter Tryd.func5, Tryd.ntmps5
  go_wp2_with fail
  refine (known_yes w ht).mono ?_
  rintro e w1 ⟨rfl, hb1⟩
  clear ht n1 n2 n3
  go_wp2
  go_loopw [6, 7] (fun m i wr => ∃ (k : Nat) (M : Int), k ≤ len ∧ i = .int .i64 k ∧ m = .int .i64 M ∧ 0 ≤ M ∧ M ≤ 1099511627776 ∧ wr.cell? ⟨w1.heap.size, 0, none⟩ = some (.int .i64 M) ∧ wr.frozen? ⟨w1.heap.size, 0, none⟩ = false ∧ Below w1.heap.size w1 wr) (fun _ i _ => len - (intOf i).toNat)
  case atStart => exact ⟨0, left, Nat.zero_le _, rfl, rfl, h0, h1, by simp, by simp, (Below.refl _ _).alloc (Nat.le_refl _) _⟩
  case round =>
    obtain ⟨k, M, hk, rfl, rfl, m0, m1, hcM, hfM, hbel⟩ := hrel
    clear h0 h1
    by_cases hlt : k < len
    · have ha0 : a0 = some ⟨xb, xo, none⟩ := by rcases HA.out with h | h; omega; exact h
      subst ha0
      obtain ⟨z, hz⟩ := HC.out k hlt
      have hxb : xb < w.heap.size := World.block_lt_of_cell? _ _ hz
      have hxw : xb < w1.heap.size := Nat.lt_of_lt_of_le hxb hb1.size
      have hz1 : w1.cell? ⟨xb, xo + k, none⟩ = some (.int .i64 z) := (hb1.cell (p := ⟨xb, xo + k, none⟩) hxb).trans hz
      have hzr : wr.cell? ⟨xb, xo + k, none⟩ = some (.int .i64 z) := (hbel.cell (p := ⟨xb, xo + k, none⟩) hxw).trans hz1
      clear hz HC HA
      by_cases c1 : z < 0
      · go_wp2_with (go_at_call 24; refine (fuel_arg w1.heap.size M z _ c1 hcM hfM).mono ?_; rintro e w2 ⟨rfl, hU⟩; have hz2 : w2.cell? ⟨xb, xo + k, none⟩ = some (.int .i64 z) := (hU.below.cell (p := ⟨xb, xo + k, none⟩) hxw).trans hzr; have hc2 := hU.cell)
        go_roundw
        case rel => exact ⟨k + 1, M, by omega, by go_num, rfl, m0, m1, hU.cell, hU.frozen, hbel.trans hU.below⟩
        case measure => simp [intOf]; omega
      · by_cases c2 : M < z
        · have c3 : 0 ≤ z := by omega
          go_wp2_with (go_at_call 24; refine (fuel_out w1.heap.size M z _ c3 c2 hcM hfM).mono ?_; rintro e w2 ⟨rfl, hU⟩; have hz2 : w2.cell? ⟨xb, xo + k, none⟩ = some (.int .i64 z) := (hU.below.cell (p := ⟨xb, xo + k, none⟩) hxw).trans hzr; have hc2 := hU.cell)
          go_roundw
          case rel => exact ⟨k + 1, 0, by omega, by go_num, rfl, by omega, by omega, hU.cell, hU.frozen, hbel.trans hU.below⟩
          case measure => simp [intOf]; omega
        · have c3 : 0 ≤ z := by omega
          have c4 : z ≤ M := by omega
          have c5 : M ≤ 9223372036854775807 := by omega
          go_wp2_with (go_at_call 24; refine (fuel_ok w1.heap.size M z _ c3 c4 c5 hcM hfM).mono ?_; rintro e w2 ⟨rfl, hU⟩; have hz2 : w2.cell? ⟨xb, xo + k, none⟩ = some (.int .i64 z) := (hU.below.cell (p := ⟨xb, xo + k, none⟩) hxw).trans hzr; have hc2 := hU.cell)
          go_roundw
          case rel => exact ⟨k + 1, M - z, by omega, by go_num, rfl, by omega, by omega, hU.cell, hU.frozen, hbel.trans hU.below⟩
          case measure => simp [intOf]; omega
    · clear HC HA
      go_wp2
      go_ret
      exact ⟨rfl, hb1.trans (hbel.mono hb1.size)⟩

theorem addr_add (b off i : Nat) : (⟨b, off, none⟩ : Addr).add i = ⟨b, off + i, none⟩ := by
  unfold Addr.add
  split <;> simp_all
theorem fuel_walk (left : Int) (a0 : Option Addr) (len cap : Nat) (zs : List Int) (w : World) (hr : IsRow .i64 w a0 len cap zs) (ht : TabW w) :
    Calls Tryd.prog 5 #[.int .i64 left, .slice a0 len cap] w fun e w' => e = .returned (.bool true) ∧ Below w.heap.size w w' := by
  have hlen : (len : Int) ≤ 9223372036854775807 := by
    rcases hr with ⟨_, rfl, _, _⟩ | ⟨x, _, h1, h2, _⟩
    · omega
    · unfold maxLen at h2; omega
  by_cases h : left < 0 ∨ 1099511627776 < left ∨ 60 < (len : Int)
  · exact fuel_short left a0 len cap w hlen h ht
  · rcases hr with ⟨rfl, rfl, _, _⟩ | ⟨⟨b, off, spot⟩, rfl, h1, h2, h3, hcell, _⟩
    · exact fuel_run left none 0 0 0 cap w (by omega) (by omega) (by omega) (Or.inl rfl) (fun i hi => absurd hi (by omega)) ht
    · by_cases e : len = 0
      · exact fuel_run left _ b off len cap w (by omega) (by omega) (by omega) (Or.inl e) (fun i hi => absurd hi (by omega)) ht
      · have hc := hcell 0 (by omega)
        have hspot : spot = none := by simpa [Addr.add] using World.cell?_spot hc
        subst hspot
        exact fuel_run left _ b off len cap w (by omega) (by omega) (by omega) (Or.inr rfl) (fun i hi => ⟨_, (addr_add b off i) ▸ hcell i (by omega)⟩) ht

set_option maxRecDepth 100000 in
theorem numbersFuel_lifted (os : Os) (started : os.Started) (H : Type) (enc : TypeId × Value → H) :
    ReturnsInHanded {} Tryd.checked os 5 .any (fun w args => (Rows.numbersFuelSpec.pre enc Tryd.prog Tryd.f5 [] false w args ∧ laidMetH Tryd.prog laid3 w) ∧ sizedMet enc Tryd.prog Tryd.f5 (OpenSpec.ofChange Rows.numbersFuelSpec) false w args)
      (Rows.numbersFuelSpec.post enc Tryd.prog Tryd.f5 false true false false) := by
  refine returnsInHanded_of_change_and (C := Tryd.checked) (X := fun w _ => laidMetH Tryd.prog laid3 w) (fun _ _ _ hh h => h.of_heap hh) own started (by kernel_rfl) Tryd.func5
    (ChangeSpec.witness_shaped (enc := enc) (C := Tryd.checked) (os := os) (X := fun w _ => laidMetH Tryd.prog laid3 w) false (World.doorLaid Tryd.prog 24 os) #[.int .i64 0, .slice none 0 0] 8 rfl (World.shaped_of_RefB (by kernel_rfl) (by kernel_rfl)) (by kernel_rfl) (by kernel_rfl) (by kernel_rfl) (door_met os _)) ?_
  intro W base args ds gs before hval0 hW _ _ hL _
  have hval : ∀ (j : Nat) t v, Tryd.f5.params[j]? = some t → args[j]? = some v → Value.okWide Tryd.prog W .any base t v := hval0
  have hW' := hW
  obtain ⟨p, q, hA0, hV, rfl, hfz, hnd⟩ := hW
  have hA : DataW.TrodAll enc Tryd.prog W 0 (fun _ => true) true Tryd.f5.params.toList args.toList ds p := hA0
  rw [Tryd.params5] at hA hval
  obtain ⟨v0, vs0, d0, ds0, p0, q0, hargs, rfl, rfl, h0, r0⟩ := trodAll_cons hA
  obtain ⟨v1, vs1, d1, ds1, p1, q1, rfl, rfl, rfl, h1, r1⟩ := trodAll_cons r0
  obtain ⟨rfl, rfl, rfl⟩ := trodAll_nil r1
  obtain rfl : args = #[v0, v1] := by cases args; simp_all
  obtain ⟨rfl, rfl⟩ := trodVars_none hV
  obtain ⟨a, rfl, rfl, rfl, wa⟩ := open_int Tryd.underlying3 (hval 0 3 v0 rfl rfl) h0
  obtain ⟨a0, len0, cap0, rfl⟩ := okWide_slice Tryd.underlying33 (hval 1 33 v1 rfl rfl)
  have k1 := h1
  have lt1 : ∀ x ∈ p1, x.block < W.heap.size := by obtain ⟨m, hm⟩ := k1; exact DataW.trod_lt m _ _ _ hm
  obtain ⟨z0, w0⟩ : ∃ zs, IsRow .i64 W a0 len0 cap0 zs := by
    obtain ⟨fuel, hf⟩ := h1
    rcases open_ints Tryd.underlying33 Tryd.underlying3 (by kernel_rfl) hf with ⟨hcs, _⟩ | ⟨x, l, c, zs, hcs, _, hl, hm, hz, _, hcell, hwz⟩
    · simp [Value.cells] at hcs
      obtain ⟨rfl, rfl, rfl⟩ := hcs
      exact ⟨[], .inl ⟨rfl, rfl, rfl, rfl⟩⟩
    · simp [Value.cells] at hcs
      obtain ⟨rfl, rfl, rfl⟩ := hcs
      exact ⟨zs, .inr ⟨_, rfl, hl, hm, by simpa using hz, hcell, hwz⟩⟩
  have ht := of_laid hL
  clear hA0 hval0
  refine (fuel_walk a a0 len0 cap0 z0 W w0 ht).mono fun e W' ⟨he, bel⟩ => ?_
  subst he
  exact ⟨_, rfl, _, _, _, [], _, [], hW', trodAll_mk1 (shut_bool Tryd.underlying4 _), (trodAll_cons_mk (shut_int Tryd.underlying3 wa) (trodAll_cons_mk (Below.trod laidOut (by kernel_rfl) (of_decide_eq_true (by kernel_rfl)) k1 bel lt1) trodAll_mk0)), rfl, bel.frame _, fun h => by cases h⟩

theorem numbersFuel_said : Rows.NumbersFuelSaid :=
  OpenClaim.holds_of_wide 5 Tryd.f5 rfl rfl rfl rfl rfl rfl rfl ⟨rfl, rfl, rfl, rfl, rfl⟩ rfl rfl rfl rfl rfl (by kernel_rfl) Tryd.func5 (by kernel_rfl)
    (of_decide_eq_true (by kernel_rfl)) (by unfold Func.isWrapper; first | (rw [if_pos (by decide +kernel)]; kernel_rfl) | (rw [if_neg (by decide +kernel)]; exact ⟨rfl, rfl⟩))
    (fun os started H enc _ => numbersFuel_lifted os started H enc)

/-- No parameter wants a stand-in; the program's own looks are off. -/
theorem numbersFuel_plain (f : FuncId) (fn : Func) (hf : Tryd.pinned.checked.prog.funcNamed "whelk/whelklaw1.NumbersFuel" = some f) (hfn : Tryd.pinned.checked.prog.funcs[f]? = some fn) :
    false = Tryd.pinned.checked.prog.looks [] ∧ ∀ (j : Nat) t, fn.params[j]? = some t → Tryd.pinned.checked.prog.wantsStandIn t = false := by
  obtain rfl : f = 5 := Option.some.inj ((show Tryd.prog.funcNamed "whelk/whelklaw1.NumbersFuel" = some 5 by kernel_rfl).symm.trans hf) |>.symm
  obtain rfl : fn = Tryd.f5 := (Option.some.inj (Tryd.func5.symm.trans hfn)).symm
  refine ⟨by kernel_rfl, fun j t hj => ?_⟩
  rw [Tryd.params5] at hj
  have hm : t ∈ [3, 33] := by simpa using Array.mem_of_getElem? hj
  have hall : ([3, 33].all fun u => !Tryd.prog.wantsStandIn u) = true := by kernel_rfl
  exact (show Tryd.prog.wantsStandIn t = false by simpa using List.all_eq_true.1 hall t hm)

theorem numbersFuel_card : Rows.NumbersFuelCardSaid :=
  Claim7.holds_tied_plain_at .later [] _ _ _ _ numbersFuel_said (fun _ h => by cases h) (by kernel_rfl) (fun _ h => by cases h) numbersFuel_row_tie rfl ⟨rfl, rfl⟩ (by kernel_rfl) rfl numbersFuel_plain (by kernel_rfl)
#print axioms numbersFuel_card
end Go.Proofs.YtnhgelpfecfmnaaDoor
