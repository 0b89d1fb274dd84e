/- Proved: for every two int64 numbers the law NumbersAny returns true, and its arguments read afterwards as before; condition: the library's tables lie as the program's text lays them (tied by the card). -/
import Derived.Test.YtnhgelpfecfmnaaDoorRef
import Derived.Test.YtnhgelpfecfmnaaDoorBase
namespace Go.Proofs.YtnhgelpfecfmnaaDoor
open Go.ChangeShapes Go.WideShapes Go.ChangeAt Go.RowKit

set_option maxHeartbeats 1000000 in
theorem any_walk (a b : Int) (w : World) (ha : inB a = true) (hb : inB b = true) (ht : TabW w) :
    Calls Tryd.prog 3 #[.int .i64 a, .int .i64 b] w fun e w' => e = .returned (.bool true) ∧ Below w.heap.size w w' := by
  go_enter Tryd.func3, Tryd.ntmps3
  go_wp2_with fail
  refine (known_yes w ht).mono ?_
  rintro e w1 ⟨rfl, hb1⟩
  clear ht
  go_wp2_with (first
    | (go_at_call 10; refine (add_any a b _ ha hb).mono ?_; rintro e w2 ⟨rfl, rfl⟩)
    | (go_at_call 11; refine (radd_any a b _ ha hb).mono ?_; rintro e w2 ⟨rfl, rfl⟩)
    | (go_at_call 12; refine (sub_any a b _ ha hb).mono ?_; rintro e w2 ⟨rfl, rfl⟩)
    | (go_at_call 13; refine (rsub_any a b _ ha hb).mono ?_; rintro e w2 ⟨rfl, rfl⟩)
    | (go_at_call 14; refine (mul_any a b _ ha hb).mono ?_; rintro e w2 ⟨rfl, rfl⟩)
    | (go_at_call 15; refine (rmul_any a b _ ha hb).mono ?_; rintro e w2 ⟨rfl, rfl⟩)
    | (go_at_call 16; refine (div_any a b _ ha).mono ?_; rintro e w2 ⟨rfl, rfl⟩)
    | (go_at_call 17; refine (rdiv_any a b _ ha).mono ?_; rintro e w2 ⟨rfl, rfl⟩)
    | (go_at_call 18; refine (mod_any a b _ ha).mono ?_; rintro e w2 ⟨rfl, rfl⟩)
    | (go_at_call 19; refine (rmod_any a b _ ha).mono ?_; rintro e w2 ⟨rfl, rfl⟩))
  go_ret
  exact ⟨rfl, hb1⟩

set_option maxRecDepth 100000 in
theorem numbersAny_lifted (os : Os) (started : os.Started) (H : Type) (enc : TypeId × Value → H) :
    ReturnsInHanded {} Tryd.checked os 3 .any (fun w args => (Rows.numbersAnySpec.pre enc Tryd.prog Tryd.f3 [] false w args ∧ laidMetH Tryd.prog laid3 w) ∧ sizedMet enc Tryd.prog Tryd.f3 (OpenSpec.ofChange Rows.numbersAnySpec) false w args)
      (Rows.numbersAnySpec.post enc Tryd.prog Tryd.f3 false true false false) := by
  refine returnsInHanded_of_change_and (C := Tryd.checked) (X := fun w _ => laidMetH Tryd.prog laid3 w) (fun _ _ _ hh h => h.of_heap hh) own started (by kernel_rfl) Tryd.func3
    (ChangeSpec.witness_shaped (enc := enc) (C := Tryd.checked) (os := os) (X := fun w _ => laidMetH Tryd.prog laid3 w) false (World.doorLaid Tryd.prog 24 os) #[.int .i64 0, .int .i64 0] 8 rfl (World.shaped_of_RefB (by kernel_rfl) (by kernel_rfl)) (by kernel_rfl) (by kernel_rfl) (by kernel_rfl) (door_met os _)) ?_
  intro W base args ds gs before hval0 hW _ _ hL _
  have hval : ∀ (j : Nat) t v, Tryd.f3.params[j]? = some t → args[j]? = some v → Value.okWide Tryd.prog W .any base t v := hval0
  have hW' := hW
  obtain ⟨p, q, hA0, hV, rfl, hfz, hnd⟩ := hW
  have hA : DataW.TrodAll enc Tryd.prog W 0 (fun _ => true) true Tryd.f3.params.toList args.toList ds p := hA0
  rw [Tryd.params3] at hA hval
  obtain ⟨v0, v1, d0, d1, p0, p1, rfl, rfl, rfl, h0, h1⟩ := trodAll_two hA
  obtain ⟨rfl, rfl⟩ := trodVars_none hV
  obtain ⟨a, rfl, rfl, rfl, wa⟩ := open_int Tryd.underlying2 (hval 0 2 v0 rfl rfl) h0
  obtain ⟨b, rfl, rfl, rfl, wb⟩ := open_int Tryd.underlying2 (hval 1 2 v1 rfl rfl) h1
  have ht := of_laid hL
  clear hA0 hval0
  simp only [List.append_nil] at hW'
  refine (any_walk a b W (inB_wf wa) (inB_wf wb) ht).mono fun e W' ⟨he, bel⟩ => ?_
  subst he
  exact ⟨_, rfl, _, _, _, [], [], [], hW', trodAll_mk1 (shut_bool Tryd.underlying4 _), trodAll_mk2 (shut_int Tryd.underlying2 wa) (shut_int Tryd.underlying2 wb), rfl, bel.frame _, fun h => by cases h⟩

theorem numbersAny_said : Rows.NumbersAnySaid :=
  OpenClaim.holds_of_wide 3 Tryd.f3 rfl rfl rfl rfl rfl rfl rfl ⟨rfl, rfl, rfl, rfl, rfl⟩ rfl rfl rfl rfl rfl (by kernel_rfl) Tryd.func3 (by kernel_rfl)
    (of_decide_eq_true (by kernel_rfl)) (by unfold Func.isWrapper; first | (rw [if_pos (by decide +kernel)]; kernel_rfl) | (rw [if_neg (by decide +kernel)]; exact ⟨rfl, rfl⟩))
    (fun os started H enc _ => numbersAny_lifted os started H enc)

/-- No parameter wants a stand-in; the program's own looks are off. -/
theorem numbersAny_plain (f : FuncId) (fn : Func) (hf : Tryd.pinned.checked.prog.funcNamed "whelk/whelklaw1.NumbersAny" = some f) (hfn : Tryd.pinned.checked.prog.funcs[f]? = some fn) :
    false = Tryd.pinned.checked.prog.looks [] ∧ ∀ (j : Nat) t, fn.params[j]? = some t → Tryd.pinned.checked.prog.wantsStandIn t = false := by
  obtain rfl : f = 3 := Option.some.inj ((show Tryd.prog.funcNamed "whelk/whelklaw1.NumbersAny" = some 3 by kernel_rfl).symm.trans hf) |>.symm
  obtain rfl : fn = Tryd.f3 := (Option.some.inj (Tryd.func3.symm.trans hfn)).symm
  refine ⟨by kernel_rfl, fun j t hj => ?_⟩
  rw [Tryd.params3] at hj
  have hm : t ∈ [2] := by simpa using Array.mem_of_getElem? hj
  have hall : ([2].all fun u => !Tryd.prog.wantsStandIn u) = true := by kernel_rfl
  exact (show Tryd.prog.wantsStandIn t = false by simpa using List.all_eq_true.1 hall t hm)

theorem numbersAny_card : Rows.NumbersAnyCardSaid :=
  Claim7.holds_tied_plain_at .later [] _ _ _ _ numbersAny_said (fun _ h => by cases h) (by kernel_rfl) (fun _ h => by cases h) numbersAny_row_tie rfl ⟨rfl, rfl⟩ (by kernel_rfl) rfl numbersAny_plain (by kernel_rfl)
#print axioms numbersAny_card
end Go.Proofs.YtnhgelpfecfmnaaDoor
