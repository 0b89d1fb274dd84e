/- Proved: for every text and every int64 number the law NumbersWords returns true, and its arguments read afterwards as before; condition: the library's tables lie as the program's text lays them (tied by the card). -/
import Derived.Test.YtnhgelpfecfmnaaDoorRtext
import Derived.Test.YtnhgelpfecfmnaaDoorBase
import Derived.ShutString
namespace Go.Proofs.YtnhgelpfecfmnaaDoor
open Go.ChangeShapes Go.WideShapes Go.ChangeAt Go.RowKit
open Go.ChangeMaps (open_string shut_string)

theorem dig_byte (d : Nat) (h : d < 10) : (UInt8.ofNat (48 + d)).toNat = 48 + d := by
  rw [UInt8.toNat_ofNat']; omega
theorem dig_is (d : Nat) (h : d < 10) : digB (UInt8.ofNat (48 + d)) = true := by
  unfold digB; rw [dig_byte d h]; simp; omega
theorem dval_dec : ∀ u : Nat, dval (Lib.decDigits u) = u := by
  intro u
  induction u using Nat.strongRecOn with
  | _ u ih =>
    by_cases c : u < 10
    · rw [dec_small c]
      show 0 * 10 + ((UInt8.ofNat (48 + u % 10)).toNat - 48) = u
      rw [dig_byte _ (by omega)]; omega
    · rw [dec_big c, dval_snoc, ih (u / 10) (by omega), dig_byte _ (by omega)]; omega
theorem allD_dec : ∀ u : Nat, allD (Lib.decDigits u) = true := by
  intro u
  induction u using Nat.strongRecOn with
  | _ u ih =>
    by_cases c : u < 10
    · rw [dec_small c]
      show (digB (UInt8.ofNat (48 + u % 10)) && true) = true
      rw [dig_is _ (by omega)]; rfl
    · rw [dec_big c, allD_snoc, ih (u / 10) (by omega), dig_is _ (by omega)]; rfl
theorem dec_cons (u : Nat) : ∃ c r, Lib.decDigits u = c :: r ∧ digB c = true := by
  have h := allD_dec u
  have hl := Lib.decDigits_length u
  have hp := Lib.nDigits_pos u
  cases e : Lib.decDigits u with
  | nil => rw [e] at hl; simp at hl; omega
  | cons c r =>
    rw [e] at h
    have h2 : (digB c && r.all digB) = true := h
    rw [Bool.and_eq_true] at h2
    exact ⟨c, r, rfl, h2.1⟩
theorem par_itoa (n : Int) (hn : inB n = true) : parV (Lib.itoa n) = n ∧ parE (Lib.itoa n) = 0 := by
  have key : shapeL (Lib.itoa n) = true ∧ valL (Lib.itoa n) = n := by
    unfold Lib.itoa
    by_cases c : n < 0
    · rw [if_pos c]
      have e1 : bodyL (45 :: Lib.decDigits n.natAbs) = Lib.decDigits n.natAbs := rfl
      have e2 : negL (45 :: Lib.decDigits n.natAbs) = true := rfl
      unfold shapeL valL
      rw [e1, e2, if_pos rfl, dval_dec, allD_dec]
      obtain ⟨d, r, hd, _⟩ := dec_cons n.natAbs
      rw [hd]
      exact ⟨rfl, by omega⟩
    · rw [if_neg c]
      obtain ⟨d, r, hd, hdig⟩ := dec_cons n.toNat
      have hb := digB_bd hdig
      have e1 : bodyL (Lib.decDigits n.toNat) = Lib.decDigits n.toNat := by
        rw [hd]
        show (if d.toNat = 45 ∨ d.toNat = 43 then r else d :: r) = d :: r
        rw [if_neg (by omega)]
      have e2 : negL (Lib.decDigits n.toNat) = false := by
        rw [hd]
        show (d.toNat == 45) = false
        simp; omega
      unfold shapeL valL
      rw [e1, e2, if_neg (by decide), dval_dec, allD_dec, hd]
      exact ⟨rfl, by omega⟩
  unfold parV parE
  rw [key.1, if_pos rfl, if_pos rfl, key.2]
  exact ⟨resV_in hn, resE_in hn⟩
theorem itoa_size (n : Int) (hn : inB n = true) : (Lib.itoa n).length ≤ 100 := by
  rw [inB_iff] at hn
  unfold Lib.itoa
  have h1 := nDigits_le 19 n.natAbs (by omega)
  have h2 := nDigits_le 19 n.toNat (by omega)
  split
  · rw [List.length_cons, Lib.decDigits_length]; omega
  · rw [Lib.decDigits_length]; omega

theorem parse_itoa (n : Int) (X : ByteArray) (w : World) (hn : inB n = true) (hX : (⟨(Lib.itoa n).toArray⟩ : ByteArray) = X) :
    Calls Tryd.prog 20 #[.string X] w fun e w' => e = .returned (.tuple #[.int .i64 n, .int .i64 0]) ∧ SameW w w' := by
  have h := parse_any X w (by rw [← hX]; exact itoa_size n hn)
  have e : X.data.toList = Lib.itoa n := by rw [← hX]
  rw [e, (par_itoa n hn).1, (par_itoa n hn).2] at h
  exact h
theorem parse_same (s : ByteArray) (v e : Int) (w : World) (hs : s.size ≤ 100) (hv : parV s.data.toList = v) (he : parE s.data.toList = e) :
    Calls Tryd.prog 20 #[.string s] w fun e' w' => e' = .returned (.tuple #[.int .i64 v, .int .i64 e]) ∧ SameW w w' := by
  rw [← hv, ← he]; exact parse_any s w hs
theorem rparse_same (s : ByteArray) (v e : Int) (w : World) (hs : s.size ≤ 100) (hv : parV s.data.toList = v) (he : parE s.data.toList = e) :
    Calls Tryd.prog 21 #[.string s] w fun e' w' => e' = .returned (.tuple #[.int .i64 v, .int .i64 e]) ∧ w' = w := by
  rw [← hv, ← he]; exact rparse_any s w hs
theorem text_same (n : Int) (X : ByteArray) (w : World) (hn : inB n = true) (ht : TabW w) (hX : (⟨(Lib.itoa n).toArray⟩ : ByteArray) = X) :
    Calls Tryd.prog 22 #[.int .i64 n] w fun e w' => e = .returned (.string X) ∧ Below w.heap.size w w' := by
  rw [← hX]; exact text_any n w hn ht
theorem rtext_same (n : Int) (X : ByteArray) (w : World) (hn : inB n = true) (hX : (⟨(Lib.itoa n).toArray⟩ : ByteArray) = X) :
    Calls Tryd.prog 23 #[.int .i64 n] w fun e w' => e = .returned (.string X) ∧ Below w.heap.size w w' := by
  rw [← hX]; exact rtext_any n w hn

theorem words_long (s : ByteArray) (n : Int) (w : World) (hl : 100 < (s.size : Int)) (ht : TabW w) :
    Calls Tryd.prog 4 #[.string s, .int .i64 n] w fun e w' => e = .returned (.bool true) ∧ Below w.heap.size w w' := by
  go_enter Tryd.func4, Tryd.ntmps4
  go_wp2_with fail
  refine (known_yes w ht).mono ?_
  rintro e w1 ⟨rfl, hb1⟩
  clear ht
  go_wp2
  go_ret
  exact ⟨rfl, hb1⟩

set_option maxHeartbeats 1000000 in
theorem words_short (s X : ByteArray) (n v e : Int) (w : World) (hs : s.size ≤ 100) (hn : inB n = true) (HX : Hid ((⟨(Lib.itoa n).toArray⟩ : ByteArray) = X)) (HV : Hid (parV s.data.toList = v)) (HE : Hid (parE s.data.toList = e)) (ht : TabW w) :
    Calls Tryd.prog 4 #[.string s, .int .i64 n] w fun e w' => e = .returned (.bool true) ∧ Below w.heap.size w w' := by
  have hp := tab_pos ht
  go_enter Tryd.func4, Tryd.ntmps4
  go_wp2_with fail
  refine (known_yes w ht).mono ?_
  rintro e1 w1 ⟨rfl, hb1⟩
  go_wp2_with fail
  refine (parse_same s v e _ hs HV.out HE.out).mono ?_
  rintro e1 w2 ⟨rfl, hq2⟩
  have hb2 : Below w.heap.size w w2 := hb1.trans (hq2.below _)
  clear hb1
  go_wp2_with fail
  refine (rparse_same s v e _ hs HV.out HE.out).mono ?_
  rintro e1 w2 ⟨rfl, rfl⟩
  have ht2 : TabW w2 := tab_below ht hb2 hp
  go_wp2_with fail
  refine (text_same n X _ hn ht2 HX.out).mono ?_
  rintro e1 w3 ⟨rfl, hq3⟩
  have hb3 : Below w.heap.size w w3 := hb2.trans (hq3.mono hb2.size)
  go_wp2_with fail
  refine (parse_itoa n X _ hn HX.out).mono ?_
  rintro e1 w4 ⟨rfl, hq4⟩
  have hb4 : Below w.heap.size w w4 := hb3.trans (hq4.below _)
  go_wp2_with (go_at_call 23; refine (rtext_same n X _ hn HX.out).mono ?_; rintro e1 w5 ⟨rfl, hq5⟩)
  go_ret
  exact ⟨rfl, hb4.trans (hq5.mono hb4.size)⟩

theorem words_walk (s : ByteArray) (n : Int) (w : World) (hn : inB n = true) (ht : TabW w) :
    Calls Tryd.prog 4 #[.string s, .int .i64 n] w fun e w' => e = .returned (.bool true) ∧ Below w.heap.size w w' := by
  by_cases h : 100 < (s.size : Int)
  · exact words_long s n w h ht
  · exact words_short s _ n _ _ w (by omega) hn rfl rfl rfl ht

set_option maxRecDepth 100000 in
theorem numbersWords_lifted (os : Os) (started : os.Started) (H : Type) (enc : TypeId × Value → H) :
    ReturnsInHanded {} Tryd.checked os 4 .any (fun w args => (Rows.numbersWordsSpec.pre enc Tryd.prog Tryd.f4 [] false w args ∧ laidMetH Tryd.prog laid3 w) ∧ sizedMet enc Tryd.prog Tryd.f4 (OpenSpec.ofChange Rows.numbersWordsSpec) false w args)
      (Rows.numbersWordsSpec.post enc Tryd.prog Tryd.f4 false true false false) := by
  refine returnsInHanded_of_change_and (C := Tryd.checked) (X := fun w _ => laidMetH Tryd.prog laid3 w) (fun _ _ _ hh h => h.of_heap hh) own started (by kernel_rfl) Tryd.func4
    (ChangeSpec.witness_shaped (enc := enc) (C := Tryd.checked) (os := os) (X := fun w _ => laidMetH Tryd.prog laid3 w) false (World.doorLaid Tryd.prog 24 os) #[.string ⟨#[]⟩, .int .i64 0] 8 rfl (World.shaped_of_RefB (by kernel_rfl) (by kernel_rfl)) (by kernel_rfl) (by kernel_rfl) (by kernel_rfl) (door_met os _)) ?_
  intro W base args ds gs before hval0 hW _ _ hL _
  have hval : ∀ (j : Nat) t v, Tryd.f4.params[j]? = some t → args[j]? = some v → Value.okWide Tryd.prog W .any base t v := hval0
  have hW' := hW
  obtain ⟨p, q, hA0, hV, rfl, hfz, hnd⟩ := hW
  have hA : DataW.TrodAll enc Tryd.prog W 0 (fun _ => true) true Tryd.f4.params.toList args.toList ds p := hA0
  rw [Tryd.params4] at hA hval
  obtain ⟨v0, v1, d0, d1, p0, p1, rfl, rfl, rfl, h0, h1⟩ := trodAll_two hA
  obtain ⟨rfl, rfl⟩ := trodVars_none hV
  obtain ⟨s, rfl, rfl, rfl, ws⟩ := open_string Tryd.underlying9 (hval 0 9 v0 rfl rfl) h0
  obtain ⟨b, rfl, rfl, rfl, wb⟩ := open_int Tryd.underlying2 (hval 1 2 v1 rfl rfl) h1
  have ht := of_laid hL
  clear hA0 hval0
  simp only [List.append_nil] at hW'
  refine (words_walk s b W (inB_wf wb) ht).mono fun e W' ⟨he, bel⟩ => ?_
  subst he
  exact ⟨_, rfl, _, _, _, [], [], [], hW', trodAll_mk1 (shut_bool Tryd.underlying4 _), trodAll_mk2 (shut_string Tryd.underlying9 ws) (shut_int Tryd.underlying2 wb), rfl, bel.frame _, fun h => by cases h⟩

theorem numbersWords_said : Rows.NumbersWordsSaid :=
  OpenClaim.holds_of_wide 4 Tryd.f4 rfl rfl rfl rfl rfl rfl rfl ⟨rfl, rfl, rfl, rfl, rfl⟩ rfl rfl rfl rfl rfl (by kernel_rfl) Tryd.func4 (by kernel_rfl)
    (of_decide_eq_true (by kernel_rfl)) (by unfold Func.isWrapper; first | (rw [if_pos (by decide +kernel)]; kernel_rfl) | (rw [if_neg (by decide +kernel)]; exact ⟨rfl, rfl⟩))
    (fun os started H enc _ => numbersWords_lifted os started H enc)

/-- No parameter wants a stand-in; the program's own looks are off. -/
theorem numbersWords_plain (f : FuncId) (fn : Func) (hf : Tryd.pinned.checked.prog.funcNamed "whelk/whelklaw1.NumbersWords" = some f) (hfn : Tryd.pinned.checked.prog.funcs[f]? = some fn) :
    false = Tryd.pinned.checked.prog.looks [] ∧ ∀ (j : Nat) t, fn.params[j]? = some t → Tryd.pinned.checked.prog.wantsStandIn t = false := by
  obtain rfl : f = 4 := Option.some.inj ((show Tryd.prog.funcNamed "whelk/whelklaw1.NumbersWords" = some 4 by kernel_rfl).symm.trans hf) |>.symm
  obtain rfl : fn = Tryd.f4 := (Option.some.inj (Tryd.func4.symm.trans hfn)).symm
  refine ⟨by kernel_rfl, fun j t hj => ?_⟩
  rw [Tryd.params4] at hj
  have hm : t ∈ [9, 2] := by simpa using Array.mem_of_getElem? hj
  have hall : ([9, 2].all fun u => !Tryd.prog.wantsStandIn u) = true := by kernel_rfl
  exact (show Tryd.prog.wantsStandIn t = false by simpa using List.all_eq_true.1 hall t hm)

theorem numbersWords_card : Rows.NumbersWordsCardSaid :=
  Claim7.holds_tied_plain_at .later [] _ _ _ _ numbersWords_said (fun _ h => by cases h) (by kernel_rfl) (fun _ h => by cases h) numbersWords_row_tie rfl ⟨rfl, rfl⟩ (by kernel_rfl) rfl numbersWords_plain (by kernel_rfl)
#print axioms numbersWords_card
end Go.Proofs.YtnhgelpfecfmnaaDoor
