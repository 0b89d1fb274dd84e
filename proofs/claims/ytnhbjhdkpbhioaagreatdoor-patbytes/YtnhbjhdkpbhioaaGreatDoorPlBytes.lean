import Derived.Test.YtnhbjhdkpbhioaaGreatDoorPbM
import Derived.Test.YtnhbjhdkpbhioaaGreatDoorPlKnow
import Derived.Test.YtnhbjhdkpbhioaaGreatDoorPrTo11
import Derived.Test.YtnhbjhdkpbhioaaGreatDoorPrNode
import Derived.Test.YtnhbjhdkpbhioaaGreatDoorPrVars
namespace Go.Proofs.YtnhbjhdkpbhioaaGreatDoor
open Go.RowKit
set_option linter.unusedSimpArgs false in
set_option maxHeartbeats 16000000 in
set_option maxRecDepth 8000 in
theorem bytes11_walk (ao : Option Addr) (n cap : Nat) (l : List UInt8) (w : World) (hl : l.length = n) (h : IsB w ao l) (hc : n ≤ cap) (h4 : Lib4 w) :
    Calls Tryz.prog 3 #[.slice ao n cap] w fun e w' => e = .returned (.bool true) ∧ Below w.heap.size w w' := by
  have H4 : Hid (Lib4 w) := h4
  have HI : Hid (IsB w ao l) := h
  have HLn : Hid (l.length = n) := hl
  clear h hl h4
  go_enter Tryz.func3, Tryz.ntmps3
  go_wp2_with fail
  refine (known11 w H4.out.tab H4.out.max).mono ?_
  rintro e w1 ⟨rfl, hb1⟩
  have HB1 : Hid (Below w.heap.size w w1) := hb1
  clear hb1
  by_cases hn : 2000 < n
  · have hni : (2000 : Int) < (n : Int) := by omega
    go_wp2
    go_ret
    exact ⟨rfl, HB1.out⟩
  have hni : ¬ (2000 : Int) < (n : Int) := by omega
  obtain ⟨R, HR⟩ : ∃ R, Hid (readQ l = R) := ⟨_, rfl⟩
  by_cases he : R.e = 0
  rotate_left
  · have HRd : Hid (Calls Tryz.prog 8 #[.slice ao n cap] w1 fun e w' => (∃ b, e = .returned (.tuple #[.slice none 0 0, .agg #[.slice (some ⟨b, 0, none⟩) 1 1, .int .i64 R.e]])) ∧ Below w1.heap.size w1 w') :=
      mread_no ao n cap l R w1 HLn.out (HI.out.next HB1.out) (by omega) hc HR.out he
    have heb : (R.e == 0) = false := by simp; exact he
    go_wp2_with fail
    refine HRd.out.mono ?_
    rintro e w4 ⟨⟨b, rfl⟩, hb4⟩
    have HB4 : Hid (Below w.heap.size w w4) := next_trans HB1.out hb4
    clear hb4 HRd
    go_wp2
    go_ret
    exact ⟨rfl, next_trans HB4.out (alloc_below _ _)⟩
  have HBd : Hid (WfL R.l ∧ ∀ x ∈ R.l, NdB x) := by
    obtain ⟨h1, _, _, _, h5⟩ := read_bnd l R HR.out he (by rw [HLn.out]; omega)
    exact ⟨h1, h5⟩
  obtain ⟨NL, ra, re⟩ := R
  simp only at he HBd
  subst he
  have HRd : Hid (Calls Tryz.prog 8 #[.slice ao n cap] w1 fun e w' => (∃ ao cap, e = .returned (.tuple #[.slice ao NL.length cap, .agg #[.slice none 0 0, .int .i64 0]]) ∧ NL.length ≤ cap ∧ IsNds w' anyB ao NL) ∧ Below w1.heap.size w1 w') :=
    mread_yes ao n cap l NL w1 HLn.out (HI.out.next HB1.out) (by omega) hc ra HR.out
  cases NL with
  | nil =>
    go_wp2_with fail
    refine HRd.out.mono ?_
    rintro e w4 ⟨⟨a2, c2, rfl, _⟩, hb4⟩
    have HB4 : Hid (Below w.heap.size w w4) := next_trans HB1.out hb4
    simp only [List.length_nil]
    clear hb4 HRd
    go_wp2
    go_ret
    exact ⟨rfl, next_trans HB4.out (alloc_below _ _)⟩
  | cons x r =>
    have hr1 : ((((x :: r).length : Nat) : Int) == 0) = false := by simp only [List.length_cons]; simp; omega
    obtain ⟨Q, HQ⟩ : ∃ Q, Hid ((x :: r).length = Q) := ⟨_, rfl⟩
    have hQ : 0 < (Q : Int) := by have := HQ.out; simp only [List.length_cons] at this; omega
    have hQn : 0 < Q := by omega
    rw [HQ.out] at HRd hr1
    go_wp2_with fail
    refine HRd.out.mono ?_
    rintro e w4 ⟨⟨a2, c2, rfl, hcq, hN4⟩, hb4⟩
    obtain ⟨W5, HW5⟩ : ∃ W5, Hid (w4.alloc (.cells #[.slice none 0 0, .int .i64 0] 27) = W5) := ⟨_, rfl⟩
    have hb5 : Below w4.heap.size w4 W5 := by rw [← HW5.out]; exact alloc_below _ _
    have HB5 : Hid (Below w.heap.size w W5) := next_trans HB1.out (next_trans hb4 hb5)
    obtain ⟨b, o, a0, cap0, K, A, I, Y, M, rfl, H, Hx, hK, HM⟩ := kid_get (j := 0) (hN4.next hb5) rfl
    have HNd : Hid (NdB x) := HBd.out.2 x (by simp)
    have HMm : Hid (x ∈ (readQ l).l) := by rw [Hid, HR.out]; simp
    rw [Nat.zero_mul, Nat.add_zero] at hK
    obtain ⟨pt, HPt⟩ : ∃ pt, Hid (ptOf x = pt) := ⟨_, rfl⟩
    have hpl2 : pt.l.length ≤ 2 := by rw [← HPt.out]; exact ptOf_len x
    obtain ⟨tn, tl⟩ := pt
    simp only at hpl2
    obtain ⟨pn, Hpn⟩ : ∃ pn, Hid (tl.length = pn) := ⟨_, rfl⟩
    rw [Hpn.out] at hpl2
    have HTo : Hid (∀ w', Below W5.heap.size W5 w' → Calls Tryz.prog 12 #[.agg #[.int .i64 (K), .int .i64 (A), .int .i64 (I), .string (Y), .slice a0 M cap0]] w' fun e w3 => (∃ ao' cap', e = .returned (.agg #[.int .i64 (K), .int .i64 (A), .int .i64 (I), .string (Y), .slice ao' M cap']) ∧ Hid (M ≤ cap' ∧ IsNds w3 anyB ao' x.l)) ∧ Below w'.heap.size w' w3) := by
      intro w' hw
      rw [← H.out]
      refine (to_any5 x a0 cap0 w' HNd.out.cnt HM.out.1 (HM.out.2.next hw)).mono ?_
      rintro e w3 ⟨⟨ao', cap', rfl, h1, h2⟩, h3⟩
      refine ⟨⟨ao', cap', ?_, by rw [← Hx.out.2.2.2.2]; exact h1, h2⟩, h3⟩
      obtain ⟨rfl, rfl, rfl, rfl, rfl⟩ := Hx.out
      rfl
    have HPp : Hid (∀ w' lo lc ao' cap', Below W5.heap.size W5 w' → IsTps w' lo T2 → M ≤ cap' ∧ IsNds w' anyB ao' x.l → Calls Tryz.prog 11 #[.agg #[.int .i64 (K), .int .i64 (A), .int .i64 (I), .string (Y), .slice ao' M cap'], .slice lo 2 lc] w' fun e w3 => (∃ po pc E, e = .returned (.tuple #[.agg #[.string tn, .slice po pn pc], E]) ∧ IsTss w3 po tl ∧ TelP x w3 E) ∧ Below w'.heap.size w' w3) := by
      rintro w' lo lc ao' cap' hw ht ⟨h1, h2⟩
      have hV : .agg #[.int .i64 (K), .int .i64 (A), .int .i64 (I), .string (Y), .slice ao' M cap'] = ndV x ao' cap' := by
        obtain ⟨rfl, rfl, rfl, rfl, rfl⟩ := Hx.out
        rfl
      rw [hV]
      refine (pparse_any T2 2 lo lc x ao' cap' w' rfl (by omega) T2_len ht HNd.out.cnt (by rw [Hx.out.2.2.2.2]; exact h1) h2).mono (fun e w3 h => ?_)
      have h := ppp_g h
      rw [HPt.out] at h
      unfold ptV at h
      simp only at h
      rw [Hpn.out] at h
      exact h
    have HPr : Hid (∀ w' to tc, Below W5.heap.size W5 w' → IsTps w' to T2 → Calls Tryz.prog 13 #[.agg #[.int .i64 (K), .int .i64 (A), .int .i64 (I), .string (Y), .slice a0 M cap0], .slice to 2 tc] w' fun e w'' => (∃ (tn : ByteArray) (po : Option Addr) (pn pc : Nat) (go : Option Addr) (gn gc : Nat) (G : Int), e = .returned (.tuple #[.agg #[.string tn, .slice po pn pc], .agg #[.slice go gn gc, .int .i64 G]]) ∧ ParF x w'' tn po pn pc go gn gc G) ∧ Below w'.heap.size w' w'') := by
      intro w' to tc hw ht
      rw [← H.out]
      exact (rpparse_any T2 2 to tc x a0 cap0 w' HNd.out.wf rfl (by omega) T2_len ht HNd.out.cnt HM.out.1 (HM.out.2.next hw)).mono (fun e w'' h => rpp_g h)
    have HK5 : Hid (KidW W5 b o K A I Y a0 M cap0) := hK
    clear hb4 hb5 hN4 hcq HRd HBd H Hx HM hK
    go_wp2_with fail
    rw [HW5.out]
    clear HW5
    refine (two_any W5).mono ?_
    rintro e w6 ⟨⟨lo6, lc6, rfl, hl6⟩, hb6⟩
    go_wp2_with fail
    refine (alltp_any T2 2 lo6 lc6 w6 rfl (by omega) T2_len hl6).mono ?_
    rintro e w7 ⟨⟨lo, lc, rfl, hl7⟩, hb7⟩
    have hb57 : Below W5.heap.size W5 w7 := next_trans hb6 hb7
    have HB57 : Hid (Below W5.heap.size W5 w7) := hb57
    have HL7 : Hid (IsTps w7 lo T2) := hl7
    obtain ⟨k0, k1, k2, k3, k4⟩ := HK5.out.next hb57
    have hbl7 : b < w7.heap.size := World.block_lt_of_cell? w7 _ k0
    clear hb6 hb7 hb57 hl6 hl7
    go_wp2_with fail
    refine (HTo.out w7 HB57.out).mono ?_
    rintro e w8 ⟨⟨ao8, cap8, rfl, hn8⟩, hb8⟩
    have HB58 : Hid (Below W5.heap.size W5 w8) := next_trans HB57.out hb8
    have HL8 : Hid (IsTps w8 lo T2) := HL7.out.next hb8
    have HN8 : Hid (M ≤ cap8 ∧ IsNds w8 anyB ao8 x.l) := hn8
    clear hb8 hn8 k0 k1 k2 k3 k4 hbl7 HL7 HB57 HTo
    go_wp2_with fail
    refine (HPp.out w8 lo lc ao8 cap8 HB58.out HL8.out HN8.out).mono ?_
    rintro e w9 ⟨⟨po, pc, E, rfl, hs9, hE9⟩, hb9⟩
    obtain ⟨TB, HTB⟩ : ∃ TB, Hid (w9.heap.size = TB) := ⟨_, rfl⟩
    obtain ⟨Wa, HWa⟩ : ∃ Wa, Hid (w9.alloc (.cells #[.string tn, .slice po pn pc] 36) = Wa) := ⟨_, rfl⟩
    have hba : Below w9.heap.size w9 Wa := by rw [← HWa.out]; exact alloc_below _ _
    have HTa : Hid (Bx Wa TB #[.string tn, .slice po pn pc]) := Bx.made' HWa.out HTB.out
    have HSa : Hid (IsTss Wa po tl ∧ TelP x Wa E ∧ IsTps Wa lo T2) := ⟨hs9.next hba, hE9.next hba, HL8.out.next (next_trans hb9 hba)⟩
    have HB5a : Hid (Below W5.heap.size W5 Wa) := next_trans HB58.out (next_trans hb9 hba)
    have HBa : Hid (Below w.heap.size w Wa) := next_trans HB5.out HB5a.out
    obtain ⟨k0, k1, k2, k3, k4⟩ := HK5.out.next HB5a.out
    have hbl : b < Wa.heap.size := World.block_lt_of_cell? Wa _ k0
    have HPra : Hid (∀ w' to tc, Below Wa.heap.size Wa w' → IsTps w' to T2 → Calls Tryz.prog 13 #[.agg #[.int .i64 (K), .int .i64 (A), .int .i64 (I), .string (Y), .slice a0 M cap0], .slice to 2 tc] w' fun e w'' => (∃ (tn : ByteArray) (po : Option Addr) (pn pc : Nat) (go : Option Addr) (gn gc : Nat) (G : Int), e = .returned (.tuple #[.agg #[.string tn, .slice po pn pc], .agg #[.slice go gn gc, .int .i64 G]]) ∧ ParF x w'' tn po pn pc go gn gc G) ∧ Below w'.heap.size w' w'') := fun w' to tc hw ht => HPr.out w' to tc (next_trans HB5a.out hw) ht
    clear hb9 hba hs9 hE9 HPp HL8 HN8 HB58 HPr HK5 HB5a HB5
    have k0' : w9.cell? ⟨b, o, none⟩ = w9.cell? ⟨b, o, none⟩ := rfl
    clear k0'
    go_wp2_with fail
    rw [HWa.out, HTB.out]
    clear HWa HTB
    apply region_mid2 (x := x) (W0 := Wa)
    case h =>
      refine wp_region_held_drew (S := (fun w' => w'.cell? ⟨b, o, none⟩ = some (.int .i64 K) ∧ w'.cell? ⟨b, o + 1, none⟩ = some (.int .i64 A) ∧ w'.cell? ⟨b, o + 2, none⟩ = some (.int .i64 I) ∧ w'.cell? ⟨b, o + 3, none⟩ = some (.string Y) ∧ w'.cell? ⟨b, o + 4, none⟩ = some (.slice a0 M cap0) ∧ Below Wa.heap.size Wa w' ∧ Wa.heap.size ≤ w'.heap.size)) (by kernel_rfl) ?_ (fun h0 => ?_)
      · exact ⟨k0, k1, k2, k3, k4, (Below.refl _ _).drew, (Below.refl Wa.heap.size Wa).drew.size⟩
      obtain ⟨wc, HV⟩ : ∃ V, Wa.drew = V := ⟨_, rfl⟩
      rw [HV] at h0 ⊢
      clear HV
      refine wpAnyH_take (i := 0) (oi := { dst := some 43, op := Op.move (Operand.tmp 3), type := 24, pos := "law.go:76", after := #[], guard := none }) (v := ?_) rfl (by kernel_rfl) (by kernel_rfl) (by kernel_rfl) (fun _ _ _ h => h) (Or.inl ⟨by rfl, ?hyT0⟩) (by assumption) ?_
      case hyT0 => (intro w hSw; (try dsimp only at hSw); go_simp; try with_reducible rfl)
      (try simp only [Act.put, List.setIfInBounds_toArray, List.set_cons_zero, List.set_cons_succ])
      refine wpAnyH_take (i := 1) (oi := { dst := some 44, op := Op.indexAddr 24 (Operand.tmp 43) (Operand.const (Value.int IntKind.i64 0)), type := 0, pos := "law.go:76", after := #[{ on := 0, ground := Ground.data }], guard := none }) (v := ?_) rfl (by kernel_rfl) (by kernel_rfl) (by kernel_rfl) (fun _ _ _ h => h) (Or.inl ⟨by rfl, ?hyT1⟩) (by assumption) ?_
      case hyT1 => (intro w hSw; (try dsimp only at hSw); go_simp; try with_reducible rfl)
      (try simp only [Act.put, List.setIfInBounds_toArray, List.set_cons_zero, List.set_cons_succ])
      refine wpAnyH_take (i := 2) (oi := { dst := some 45, op := Op.load 46 (Operand.tmp 44), type := 46, pos := "law.go:76", after := #[{ on := 1, ground := Ground.data }], guard := none }) (v := ?_) rfl (by kernel_rfl) (by kernel_rfl) (by kernel_rfl) (fun _ _ _ h => h) (Or.inl ⟨by rfl, ?hyT2⟩) (by assumption) ?_
      case hyT2 => (intro w hSw; (try dsimp only at hSw); go_simp; try with_reducible rfl)
      (try simp only [Act.put, List.setIfInBounds_toArray, List.set_cons_zero, List.set_cons_succ])
      iterate 4
        all_goals first
          | (have z0 := HP; clear z0; have z1 := B8; clear z1; refine wpAnyH_ready (rs := [9]) (by kernel_rfl) (by simp) ?_; refine AllReadyH.cons (o := { dst := some 9, op := Op.alloc 27, type := 0, pos := "law.go:76", after := #[], guard := none }) rfl (fun K hK => ?_) (AllReadyH.nil))
          | (have z0 := HP; clear z0; have z1 := B9; clear z1; refine wpAnyH_ready (rs := [8]) (by kernel_rfl) (by simp) ?_; refine AllReadyH.cons (o := { dst := some 8, op := Op.alloc 49, type := 0, pos := "law.go:76", after := #[], guard := none }) rfl (fun K hK => ?_) (AllReadyH.nil))
          | (have z0 := HP; clear z0; refine wpAnyH_ready (rs := [8, 9]) (by kernel_rfl) (by simp) ?_; refine AllReadyH.cons (o := { dst := some 8, op := Op.alloc 49, type := 0, pos := "law.go:76", after := #[], guard := none }) rfl (fun K hK => ?_) (AllReadyH.cons (o := { dst := some 9, op := Op.alloc 27, type := 0, pos := "law.go:76", after := #[], guard := none }) rfl (fun K hK => ?_) (AllReadyH.nil)))
          | (have z0 := HT; clear z0; have z1 := B8; clear z1; have z2 := B9; clear z2; refine wpAnyH_ready (rs := [4]) (by kernel_rfl) (by simp) ?_; refine AllReadyH.cons (o := { dst := some 47, op := Op.call { callee := Callee.value (Operand.func 13), args := #[Operand.tmp 45, Operand.tmp 46], argTypes := #[46, 32] }, type := 50, pos := "law.go:76", after := #[{ on := 2, ground := Ground.data }, { on := 3, ground := Ground.data }, { on := 3, ground := Ground.chain }], guard := none }) rfl (fun K hK => ?_) (AllReadyH.nil))
          | (have z0 := HT; clear z0; have z1 := B8; clear z1; refine wpAnyH_ready (rs := [4, 9]) (by kernel_rfl) (by simp) ?_; refine AllReadyH.cons (o := { dst := some 47, op := Op.call { callee := Callee.value (Operand.func 13), args := #[Operand.tmp 45, Operand.tmp 46], argTypes := #[46, 32] }, type := 50, pos := "law.go:76", after := #[{ on := 2, ground := Ground.data }, { on := 3, ground := Ground.data }, { on := 3, ground := Ground.chain }], guard := none }) rfl (fun K hK => ?_) (AllReadyH.cons (o := { dst := some 9, op := Op.alloc 27, type := 0, pos := "law.go:76", after := #[], guard := none }) rfl (fun K hK => ?_) (AllReadyH.nil)))
          | (have z0 := HT; clear z0; have z1 := B9; clear z1; refine wpAnyH_ready (rs := [4, 8]) (by kernel_rfl) (by simp) ?_; refine AllReadyH.cons (o := { dst := some 47, op := Op.call { callee := Callee.value (Operand.func 13), args := #[Operand.tmp 45, Operand.tmp 46], argTypes := #[46, 32] }, type := 50, pos := "law.go:76", after := #[{ on := 2, ground := Ground.data }, { on := 3, ground := Ground.data }, { on := 3, ground := Ground.chain }], guard := none }) rfl (fun K hK => ?_) (AllReadyH.cons (o := { dst := some 8, op := Op.alloc 49, type := 0, pos := "law.go:76", after := #[], guard := none }) rfl (fun K hK => ?_) (AllReadyH.nil)))
          | (have z0 := HT; clear z0; refine wpAnyH_ready (rs := [4, 8, 9]) (by kernel_rfl) (by simp) ?_; refine AllReadyH.cons (o := { dst := some 47, op := Op.call { callee := Callee.value (Operand.func 13), args := #[Operand.tmp 45, Operand.tmp 46], argTypes := #[46, 32] }, type := 50, pos := "law.go:76", after := #[{ on := 2, ground := Ground.data }, { on := 3, ground := Ground.data }, { on := 3, ground := Ground.chain }], guard := none }) rfl (fun K hK => ?_) (AllReadyH.cons (o := { dst := some 8, op := Op.alloc 49, type := 0, pos := "law.go:76", after := #[], guard := none }) rfl (fun K hK => ?_) (AllReadyH.cons (o := { dst := some 9, op := Op.alloc 27, type := 0, pos := "law.go:76", after := #[], guard := none }) rfl (fun K hK => ?_) (AllReadyH.nil))))
          | (have z0 := B8; clear z0; have z1 := B9; clear z1; refine wpAnyH_ready (rs := [3]) (by kernel_rfl) (by simp) ?_; refine AllReadyH.cons (o := { dst := some 46, op := Op.call { callee := Callee.value (Operand.func 10), args := #[], argTypes := #[] }, type := 32, pos := "law.go:76", after := #[], guard := none }) rfl (fun K hK => ?_) (AllReadyH.nil))
          | (have z0 := B8; clear z0; refine wpAnyH_ready (rs := [3, 9]) (by kernel_rfl) (by simp) ?_; refine AllReadyH.cons (o := { dst := some 46, op := Op.call { callee := Callee.value (Operand.func 10), args := #[], argTypes := #[] }, type := 32, pos := "law.go:76", after := #[], guard := none }) rfl (fun K hK => ?_) (AllReadyH.cons (o := { dst := some 9, op := Op.alloc 27, type := 0, pos := "law.go:76", after := #[], guard := none }) rfl (fun K hK => ?_) (AllReadyH.nil)))
          | (have z0 := B9; clear z0; refine wpAnyH_ready (rs := [3, 8]) (by kernel_rfl) (by simp) ?_; refine AllReadyH.cons (o := { dst := some 46, op := Op.call { callee := Callee.value (Operand.func 10), args := #[], argTypes := #[] }, type := 32, pos := "law.go:76", after := #[], guard := none }) rfl (fun K hK => ?_) (AllReadyH.cons (o := { dst := some 8, op := Op.alloc 49, type := 0, pos := "law.go:76", after := #[], guard := none }) rfl (fun K hK => ?_) (AllReadyH.nil)))
          | (refine wpAnyH_ready (rs := [3, 8, 9]) (by kernel_rfl) (by simp) ?_; refine AllReadyH.cons (o := { dst := some 46, op := Op.call { callee := Callee.value (Operand.func 10), args := #[], argTypes := #[] }, type := 32, pos := "law.go:76", after := #[], guard := none }) rfl (fun K hK => ?_) (AllReadyH.cons (o := { dst := some 8, op := Op.alloc 49, type := 0, pos := "law.go:76", after := #[], guard := none }) rfl (fun K hK => ?_) (AllReadyH.cons (o := { dst := some 9, op := Op.alloc 27, type := 0, pos := "law.go:76", after := #[], guard := none }) rfl (fun K hK => ?_) (AllReadyH.nil))))
        all_goals go_simp
        all_goals first
          | refine (two_any _).mono ?_
            rintro e wc ⟨⟨to, tc, rfl, htp⟩, hb⟩
            have HT : Hid (IsTps wc to T2) := htp
            clear htp
            try replace B8 : Hid (Bx wc P8 #[.string ⟨#[]⟩, .slice none 0 0]) := B8.out.next hb
            try replace B9 : Hid (Bx wc P9 #[.slice none 0 0, .int .i64 0]) := B9.out.next hb
            refine hK.out _ _ ?_ (fun h0 => ?_)
            · obtain ⟨q0, q1, q2, q3, q4, q5, q6⟩ := h0; exact ⟨keep_cell hb q0, keep_cell hb q1, keep_cell hb q2, keep_cell hb q3, keep_cell hb q4, below_next q5 hb q6, le_next q6 hb⟩
            clear hK K hb
            (try simp only [Act.put, List.setIfInBounds_toArray, List.set_cons_zero, List.set_cons_succ])
          | refine (HPra.out _ to tc h0.2.2.2.2.2.1 HT.out).mono ?_
            rintro e wc ⟨⟨tn, po, pn, pc, go, gn, gc, G, rfl, hpp⟩, hb⟩
            have HP : Hid (ParF x wc tn po pn pc go gn gc G) := hpp
            clear hpp
            try replace HT : Hid (IsTps wc to T2) := HT.out.next hb
            try replace B8 : Hid (Bx wc P8 #[.string ⟨#[]⟩, .slice none 0 0]) := B8.out.next hb
            try replace B9 : Hid (Bx wc P9 #[.slice none 0 0, .int .i64 0]) := B9.out.next hb
            refine hK.out _ _ ?_ (fun h0 => ?_)
            · obtain ⟨q0, q1, q2, q3, q4, q5, q6⟩ := h0; exact ⟨keep_cell hb q0, keep_cell hb q1, keep_cell hb q2, keep_cell hb q3, keep_cell hb q4, below_next q5 hb q6, le_next q6 hb⟩
            clear hK K hb
            (try simp only [Act.put, List.setIfInBounds_toArray, List.set_cons_zero, List.set_cons_succ])
            refine wpAnyH_take (i := 5) (oi := { dst := some 42, op := Op.move (Operand.tmp 47), type := 50, pos := "law.go:76", after := #[{ on := 4, ground := Ground.data }], guard := none }) (v := ?_) rfl (by kernel_rfl) (by kernel_rfl) (by kernel_rfl) (fun _ _ _ h => h) (Or.inl ⟨by rfl, ?hyT5⟩) (by assumption) ?_
            case hyT5 => (intro w hSw; (try dsimp only at hSw); go_simp; try with_reducible rfl)
            (try simp only [Act.put, List.setIfInBounds_toArray, List.set_cons_zero, List.set_cons_succ])
            refine wpAnyH_take (i := 6) (oi := { dst := some 48, op := Op.extract (Operand.tmp 42) 0, type := 49, pos := "law.go:76", after := #[{ on := 5, ground := Ground.data }], guard := none }) (v := ?_) rfl (by kernel_rfl) (by kernel_rfl) (by kernel_rfl) (fun _ _ _ h => h) (Or.inl ⟨by rfl, ?hyT6⟩) (by assumption) ?_
            case hyT6 => (intro w hSw; (try dsimp only at hSw); go_simp; try with_reducible rfl)
            (try simp only [Act.put, List.setIfInBounds_toArray, List.set_cons_zero, List.set_cons_succ])
            refine wpAnyH_take (i := 7) (oi := { dst := some 49, op := Op.extract (Operand.tmp 42) 1, type := 27, pos := "law.go:76", after := #[{ on := 5, ground := Ground.data }, { on := 10, ground := Ground.gcOnly Departure.lateStores }], guard := none }) (v := ?_) rfl (by kernel_rfl) (by kernel_rfl) (by kernel_rfl) (fun _ _ _ h => h) (Or.inl ⟨by rfl, ?hyT7⟩) (by assumption) ?_
            case hyT7 => (intro w hSw; (try dsimp only at hSw); go_simp; try with_reducible rfl)
            (try simp only [Act.put, List.setIfInBounds_toArray, List.set_cons_zero, List.set_cons_succ])
          | obtain ⟨P8, HPp⟩ : ∃ P, Hid (wc.heap.size = P) := ⟨_, rfl⟩
            obtain ⟨wn, HWw, hb⟩ : ∃ w, Hid (wc.alloc (.cells #[.string ⟨#[]⟩, .slice none 0 0] 49) = w) ∧ Below wc.heap.size wc w := ⟨_, rfl, alloc_below _ _⟩
            rw [HWw.out, HPp.out]
            have B8 : Hid (Bx wn P8 #[.string ⟨#[]⟩, .slice none 0 0]) := Bx.made' HWw.out HPp.out
            have hp8 : Wa.heap.size ≤ P8 := by rw [← HPp.out]; exact h0.2.2.2.2.2.2
            clear HWw HPp
            rename World => wc
            try replace HT : Hid (IsTps wc to T2) := HT.out.next hb
            try replace HP : Hid (ParF x wc tn po pn pc go gn gc G) := HP.out.next hb
            try replace B9 : Hid (Bx wc P9 #[.slice none 0 0, .int .i64 0]) := B9.out.next hb
            refine hK.out _ _ ?_ (fun h0 => ?_)
            · obtain ⟨q0, q1, q2, q3, q4, q5, q6⟩ := h0; exact ⟨keep_cell hb q0, keep_cell hb q1, keep_cell hb q2, keep_cell hb q3, keep_cell hb q4, below_next q5 hb q6, le_next q6 hb⟩
            clear hK K hb
            (try simp only [Act.put, List.setIfInBounds_toArray, List.set_cons_zero, List.set_cons_succ])
          | obtain ⟨P9, HPp⟩ : ∃ P, Hid (wc.heap.size = P) := ⟨_, rfl⟩
            obtain ⟨wn, HWw, hb⟩ : ∃ w, Hid (wc.alloc (.cells #[.slice none 0 0, .int .i64 0] 27) = w) ∧ Below wc.heap.size wc w := ⟨_, rfl, alloc_below _ _⟩
            rw [HWw.out, HPp.out]
            have B9 : Hid (Bx wn P9 #[.slice none 0 0, .int .i64 0]) := Bx.made' HWw.out HPp.out
            have hp9 : Wa.heap.size ≤ P9 := by rw [← HPp.out]; exact h0.2.2.2.2.2.2
            clear HWw HPp
            rename World => wc
            try replace HT : Hid (IsTps wc to T2) := HT.out.next hb
            try replace HP : Hid (ParF x wc tn po pn pc go gn gc G) := HP.out.next hb
            try replace B8 : Hid (Bx wc P8 #[.string ⟨#[]⟩, .slice none 0 0]) := B8.out.next hb
            refine hK.out _ _ ?_ (fun h0 => ?_)
            · obtain ⟨q0, q1, q2, q3, q4, q5, q6⟩ := h0; exact ⟨keep_cell hb q0, keep_cell hb q1, keep_cell hb q2, keep_cell hb q3, keep_cell hb q4, below_next q5 hb q6, le_next q6 hb⟩
            clear hK K hb
            (try simp only [Act.put, List.setIfInBounds_toArray, List.set_cons_zero, List.set_cons_succ])
      all_goals
        have hbo : b < Wa.heap.size := hbl
        have hne := bx_ne B8.out B9.out
        have s0 : wc.cell? ⟨P8, 0, none⟩ = some (.string ⟨#[]⟩) := B8.out.cell 0
        have s1 : wc.cell? ⟨P8, 1, none⟩ = some (.slice none 0 0) := B8.out.cell 1
        have sf := B8.out.froz
        refine wpAnyH_ready (rs := [10]) (by kernel_rfl) (by simp) ?_
        refine AllReadyH.cons (o := { dst := none, op := Op.store 49 (Operand.tmp 8) (Operand.tmp 48), type := 0, pos := "law.go:76", after := #[{ on := 8, ground := Ground.data }, { on := 6, ground := Ground.data }, { on := 4, ground := Ground.chain }, { on := 0, ground := Ground.phase }, { on := 1, ground := Ground.phase }, { on := 2, ground := Ground.phase }, { on := 3, ground := Ground.phase }, { on := 4, ground := Ground.phase }, { on := 5, ground := Ground.phase }, { on := 6, ground := Ground.phase }, { on := 7, ground := Ground.textOnly Departure.lateStores }, { on := 8, ground := Ground.phase }, { on := 9, ground := Ground.phase }], guard := none }) rfl (fun K hK => ?_) AllReadyH.nil
        go_simp
        obtain ⟨wd, HWw⟩ : ∃ w, Hid ((wc.setCell ⟨P8, 0, none⟩ (.string tn)).setCell ⟨P8, 1, none⟩ (.slice po pn pc) = w) := ⟨_, rfl⟩
        rw [HWw.out]
        clear s0 s1 sf
        refine hK.out _ _ ?_ (fun h0 => ?_)
        · obtain ⟨q0, q1, q2, q3, q4, q5, q6⟩ := h0
          have hbq := World.block_lt_of_cell? _ _ q0
          simp only at hbq
          rw [← HWw.out]
          exact ⟨far2 (by omega) q0, far2 (by omega) q1, far2 (by omega) q2, far2 (by omega) q3, far2 (by omega) q4, set_bel (set_bel q5 hp8) hp8, by simp [World.setCell]; exact q6⟩
        clear hK K
        (try simp only [Act.put, List.setIfInBounds_toArray, List.set_cons_zero, List.set_cons_succ])
        have HPd : Hid (ParF x wd tn po pn pc go gn gc G) := by rw [Hid, ← HWw.out]; exact HP.out.set8 B8.out
        have C8 : Hid (Bx wd P8 #[.string tn, .slice po pn pc]) := by rw [Hid, ← HWw.out]; exact (B8.out.set 0 _).set 1 _
        replace B9 : Hid (Bx wd P9 #[.slice none 0 0, .int .i64 0]) := by rw [Hid, ← HWw.out]; exact (B9.out.off (Ne.symm hne) _ _).off (Ne.symm hne) _ _
        clear HWw B8 HP
        rename World => wc
        have s0 : wc.cell? ⟨P9, 0, none⟩ = some (.slice none 0 0) := B9.out.cell 0
        have s1 : wc.cell? ⟨P9, 1, none⟩ = some (.int .i64 0) := B9.out.cell 1
        have sf := B9.out.froz
        refine wpAnyH_ready (rs := [11]) (by kernel_rfl) (by simp) ?_
        refine AllReadyH.cons (o := { dst := none, op := Op.store 27 (Operand.tmp 9) (Operand.tmp 49), type := 0, pos := "law.go:76", after := #[{ on := 9, ground := Ground.data }, { on := 7, ground := Ground.data }, { on := 10, ground := Ground.chain }, { on := 0, ground := Ground.phase }, { on := 1, ground := Ground.phase }, { on := 2, ground := Ground.phase }, { on := 3, ground := Ground.phase }, { on := 4, ground := Ground.phase }, { on := 5, ground := Ground.phase }, { on := 6, ground := Ground.phase }, { on := 7, ground := Ground.phase }, { on := 8, ground := Ground.phase }, { on := 9, ground := Ground.phase }, { on := 10, ground := Ground.phase }], guard := none }) rfl (fun K hK => ?_) AllReadyH.nil
        go_simp
        obtain ⟨we, HWw⟩ : ∃ w, Hid ((wc.setCell ⟨P9, 0, none⟩ (.slice go gn gc)).setCell ⟨P9, 1, none⟩ (.int .i64 G) = w) := ⟨_, rfl⟩
        rw [HWw.out]
        clear s0 s1 sf
        refine hK.out _ _ ?_ (fun h0 => ?_)
        · obtain ⟨q0, q1, q2, q3, q4, q5, q6⟩ := h0
          have hbq := World.block_lt_of_cell? _ _ q0
          simp only at hbq
          rw [← HWw.out]
          exact ⟨far2 (by omega) q0, far2 (by omega) q1, far2 (by omega) q2, far2 (by omega) q3, far2 (by omega) q4, set_bel (set_bel q5 hp9) hp9, by simp [World.setCell]; exact q6⟩
        clear hK K
        (try simp only [Act.put, List.setIfInBounds_toArray, List.set_cons_zero, List.set_cons_succ])
        refine wpAnyH_done (by kernel_rfl) (onlyN ?_) _
        refine ⟨to, tc, tn, po, pn, pc, go, gn, gc, G, P8, P9, rfl, ⟨h0.2.2.2.2.2.1, ?_, ?_, ?_⟩⟩
        · rw [← HWw.out]; exact (C8.out.off hne _ _).off hne _ _
        · rw [← HWw.out]; exact (B9.out.set 0 _).set 1 _
        · rw [← HWw.out]; exact HPd.out.set9 B9.out
    case hQ =>
      rintro to tc tn' xo xn xc go gn gc G P8 P9 wb ⟨hbb, hx8, hx9, hpf⟩
      have hq := hpf.pt
      rw [HPt.out] at hq
      simp only at hq
      obtain ⟨hq1, hq2, hxs, hTq⟩ := hq
      rw [Hpn.out] at hq2
      subst hq1 hq2
      have HBb : Hid (Below w.heap.size w wb) := next_trans HBa.out hbb
      have HTb : Hid (Bx wb TB #[.string tn', .slice po xn pc]) := HTa.out.next hbb
      have HXb : Hid (Bx wb P8 #[.string tn', .slice xo xn xc]) := hx8
      have HGb : Hid (Bx wb P9 #[.slice go gn gc, .int .i64 G]) := hx9
      have HSb : Hid (IsTss wb po tl ∧ IsTss wb xo tl ∧ TelP x wb E ∧ TelQ x wb go gn gc G ∧ IsTps wb lo T2) := ⟨HSa.out.1.next hbb, hxs, HSa.out.2.1.next hbb, hTq, HSa.out.2.2.next hbb⟩
      obtain ⟨t0, t1⟩ : wb.cell? ⟨TB, 0, none⟩ = some (.string tn') ∧ wb.cell? ⟨TB, 1, none⟩ = some (.slice po xn pc) := ⟨HTb.out.cell 0, HTb.out.cell 1⟩
      obtain ⟨x0, x1⟩ : wb.cell? ⟨P8, 0, none⟩ = some (.string tn') ∧ wb.cell? ⟨P8, 1, none⟩ = some (.slice xo xn xc) := ⟨HXb.out.cell 0, HXb.out.cell 1⟩
      obtain ⟨g0, g1⟩ : wb.cell? ⟨P9, 0, none⟩ = some (.slice go gn gc) ∧ wb.cell? ⟨P9, 1, none⟩ = some (.int .i64 G) := ⟨HGb.out.cell 0, HGb.out.cell 1⟩
      have HTl : Hid (∀ w', Below wb.heap.size wb w' → Calls Tryz.prog 14 #[E, .agg #[.slice go gn gc, .int .i64 G]] w' fun e w2 => e = .returned (.bool true) ∧ Below w'.heap.size w' w2) := fun w' hw =>
        tells_p w' HMm.out (by rw [HLn.out]; omega) (HSb.out.2.2.1.next hw) (HSb.out.2.2.2.1.next hw) (H4.out.next (next_trans HBb.out hw))
      have HOf : Hid (∀ w', Below wb.heap.size wb w' → Calls Tryz.prog 16 #[.agg #[.string tn', .slice po xn pc]] w' fun e w2 => (∃ ao' cap', e = .returned (.agg #[.string tn', .slice ao' xn cap']) ∧ IsTss w2 ao' tl) ∧ Below w'.heap.size w' w2) := by
        intro w' hw
        have := pof11_any ⟨tn', tl⟩ po pc w' (by show tl.length ≤ _; rw [Hpn.out]; omega) (HSb.out.1.next hw)
        unfold ptV at this
        simp only at this
        rw [Hpn.out] at this
        exact this
      have HSm : Hid (∀ w' ao' cap', Below wb.heap.size wb w' → IsTss w' ao' tl → Calls Tryz.prog 15 #[.agg #[.string tn', .slice ao' xn cap'], .agg #[.string tn', .slice xo xn xc]] w' fun e w2 => e = .returned (.bool true) ∧ Below w'.heap.size w' w2) := by
        intro w' ao' cap' hw hs
        have := rpsame_any ⟨tn', tl⟩ ao' xo cap' xc w' (by show tl.length ≤ _; rw [Hpn.out]; omega) hs (HSb.out.2.1.next hw)
        unfold ptV at this
        simp only at this
        rw [Hpn.out] at this
        exact this
      clear hbb hx8 hx9 hpf hxs hTq HTa HSa HBa HPra k0 k1 k2 k3 k4 hbl
      go_wp2_with fail
      refine wp_region_held_drew (S := (fun w' => w'.cell? ⟨TB, 0, none⟩ = some (.string tn') ∧ w'.cell? ⟨TB, 1, none⟩ = some (.slice po xn pc) ∧ w'.cell? ⟨P8, 0, none⟩ = some (.string tn') ∧ w'.cell? ⟨P8, 1, none⟩ = some (.slice xo xn xc) ∧ w'.cell? ⟨P9, 0, none⟩ = some (.slice go gn gc) ∧ w'.cell? ⟨P9, 1, none⟩ = some (.int .i64 G) ∧ Below wb.heap.size wb w' ∧ wb.heap.size ≤ w'.heap.size)) (by kernel_rfl) ?_ (fun hHeldA => ?_)
      · exact ⟨t0, t1, x0, x1, g0, g1, (Below.refl _ _).drew, (Below.refl wb.heap.size wb).drew.size⟩
      refine wpAnyH_take (i := 0) (oi := { dst := some 50, op := Op.move (Operand.tmp 7), type := 38, pos := "law.go:77", after := #[], guard := none }) (v := ?_) rfl (by kernel_rfl) (by kernel_rfl) (by kernel_rfl) (fun _ _ _ h => h) (Or.inl ⟨by rfl, ?hyA0⟩) (by assumption) ?_
      case hyA0 => (intro w hSw; (try dsimp only at hSw); go_simp; try with_reducible rfl)
      (try simp only [Act.put, List.setIfInBounds_toArray, List.set_cons_zero, List.set_cons_succ])
      refine wpAnyH_take (i := 1) (oi := { dst := some 51, op := Op.load 27 (Operand.tmp 9), type := 27, pos := "law.go:77", after := #[], guard := none }) (v := ?_) rfl (by kernel_rfl) (by kernel_rfl) (by kernel_rfl) (fun _ _ _ h => h) (Or.inl ⟨by rfl, ?hyA1⟩) (by assumption) ?_
      case hyA1 => (intro w hSw; (try dsimp only at hSw); go_simp; try with_reducible rfl)
      (try simp only [Act.put, List.setIfInBounds_toArray, List.set_cons_zero, List.set_cons_succ])
      refine wpAnyH_ready (rs := [2]) (by kernel_rfl) (by simp) ?_
      refine AllReadyH.cons (o := { dst := some 52, op := Op.call { callee := Callee.value (Operand.func 14), args := #[Operand.tmp 50, Operand.tmp 51], argTypes := #[38, 27] }, type := 4, pos := "law.go:77", after := #[{ on := 0, ground := Ground.data }, { on := 1, ground := Ground.data }], guard := none }) rfl (fun K hK => ?_) AllReadyH.nil
      go_simp
      refine (HTl.out _ (hHeldA.2.2.2.2.2.2.1)).mono ?_
      rintro e wd ⟨rfl, hb⟩
      refine hK.out _ _ ?_ (fun hHeldAx => ?_)
      · obtain ⟨q0, q1, q2, q3, q4, q5, q6, q7⟩ := hHeldA
        exact ⟨keep_cell hb q0, keep_cell hb q1, keep_cell hb q2, keep_cell hb q3, keep_cell hb q4, keep_cell hb q5, below_next q6 hb q7, le_next q7 hb⟩
      clear hK K hb hHeldA
      (try simp only [Act.put, List.setIfInBounds_toArray, List.set_cons_zero, List.set_cons_succ])
      refine wpAnyH_take (i := 3) (oi := { dst := some 53, op := Op.unOp UnOp.not 4 (Operand.tmp 52), type := 4, pos := "law.go:77", after := #[{ on := 2, ground := Ground.data }], guard := none }) (v := ?_) rfl (by kernel_rfl) (by kernel_rfl) (by kernel_rfl) (fun _ _ _ h => h) (Or.inl ⟨by rfl, ?hyA3⟩) (by assumption) ?_
      case hyA3 => (intro w hSw; (try dsimp only at hSw); go_simp; try with_reducible rfl)
      (try simp only [Act.put, List.setIfInBounds_toArray, List.set_cons_zero, List.set_cons_succ])
      refine wpAnyH_take (i := 4) (oi := { dst := some 54, op := Op.move (Operand.tmp 53), type := 4, pos := "law.go:77", after := #[{ on := 3, ground := Ground.data }, { on := 2, ground := Ground.chain }], guard := none }) (v := ?_) rfl (by kernel_rfl) (by kernel_rfl) (by kernel_rfl) (fun _ _ _ h => h) (Or.inl ⟨by rfl, ?hyA4⟩) (by assumption) ?_
      case hyA4 => (intro w hSw; (try dsimp only at hSw); go_simp; try with_reducible rfl)
      (try simp only [Act.put, List.setIfInBounds_toArray, List.set_cons_zero, List.set_cons_succ])
      refine wpAnyH_take (i := 5) (oi := { dst := some 55, op := Op.load 36 (Operand.tmp 6), type := 36, pos := "law.go:77", after := #[{ on := 4, ground := Ground.guard }], guard := some (4, false) }) (v := ?_) rfl (by kernel_rfl) (by kernel_rfl) (by kernel_rfl) (fun _ _ _ h => h) (Or.inl ⟨by rfl, ?hyA5⟩) (by assumption) ?_
      case hyA5 => (intro w hSw; (try dsimp only at hSw); go_simp; try with_reducible rfl)
      (try simp only [Act.put, List.setIfInBounds_toArray, List.set_cons_zero, List.set_cons_succ])
      refine wpAnyH_take (i := 7) (oi := { dst := some 57, op := Op.load 49 (Operand.tmp 8), type := 49, pos := "law.go:77", after := #[{ on := 4, ground := Ground.guard }], guard := some (4, false) }) (v := ?_) rfl (by kernel_rfl) (by kernel_rfl) (by kernel_rfl) (fun _ _ _ h => h) (Or.inl ⟨by rfl, ?hyA7⟩) (by assumption) ?_
      case hyA7 => (intro w hSw; (try dsimp only at hSw); go_simp; try with_reducible rfl)
      (try simp only [Act.put, List.setIfInBounds_toArray, List.set_cons_zero, List.set_cons_succ])
      refine wpAnyH_ready (rs := [6]) (by kernel_rfl) (by simp) ?_
      refine AllReadyH.cons (o := { dst := some 56, op := Op.call { callee := Callee.value (Operand.func 16), args := #[Operand.tmp 55], argTypes := #[36] }, type := 49, pos := "law.go:77", after := #[{ on := 5, ground := Ground.data }, { on := 4, ground := Ground.chain }, { on := 4, ground := Ground.guard }], guard := some (4, false) }) rfl (fun K hK => ?_) AllReadyH.nil
      go_simp
      refine (HOf.out _ (hHeldAx.2.2.2.2.2.2.1)).mono ?_
      rintro e we ⟨⟨ao8, cap8, rfl, hs8⟩, hb⟩
      have HS8 : Hid (IsTss we ao8 tl) := hs8
      clear hs8
      refine hK.out _ _ ?_ (fun hHeldAxx => ?_)
      · obtain ⟨q0, q1, q2, q3, q4, q5, q6, q7⟩ := hHeldAx
        exact ⟨keep_cell hb q0, keep_cell hb q1, keep_cell hb q2, keep_cell hb q3, keep_cell hb q4, keep_cell hb q5, below_next q6 hb q7, le_next q7 hb⟩
      clear hK K hb hHeldAx
      (try simp only [Act.put, List.setIfInBounds_toArray, List.set_cons_zero, List.set_cons_succ])
      refine wpAnyH_ready (rs := [8]) (by kernel_rfl) (by simp) ?_
      refine AllReadyH.cons (o := { dst := some 58, op := Op.call { callee := Callee.value (Operand.func 15), args := #[Operand.tmp 56, Operand.tmp 57], argTypes := #[49, 49] }, type := 4, pos := "law.go:77", after := #[{ on := 6, ground := Ground.data }, { on := 7, ground := Ground.data }, { on := 6, ground := Ground.chain }, { on := 4, ground := Ground.guard }], guard := some (4, false) }) rfl (fun K hK => ?_) AllReadyH.nil
      go_simp
      refine (HSm.out _ _ _ (hHeldAxx.2.2.2.2.2.2.1) HS8.out).mono ?_
      rintro e wc ⟨rfl, hb⟩
      refine hK.out _ _ ?_ (fun hHeldAxxx => ?_)
      · obtain ⟨q0, q1, q2, q3, q4, q5, q6, q7⟩ := hHeldAxx
        exact ⟨keep_cell hb q0, keep_cell hb q1, keep_cell hb q2, keep_cell hb q3, keep_cell hb q4, keep_cell hb q5, below_next q6 hb q7, le_next q7 hb⟩
      clear hK K hb hHeldAxx
      (try simp only [Act.put, List.setIfInBounds_toArray, List.set_cons_zero, List.set_cons_succ])
      refine wpAnyH_take (i := 9) (oi := { dst := some 59, op := Op.unOp UnOp.not 4 (Operand.tmp 58), type := 4, pos := "law.go:77", after := #[{ on := 8, ground := Ground.data }, { on := 4, ground := Ground.guard }], guard := some (4, false) }) (v := ?_) rfl (by kernel_rfl) (by kernel_rfl) (by kernel_rfl) (fun _ _ _ h => h) (Or.inl ⟨by rfl, ?hyA9⟩) (by assumption) ?_
      case hyA9 => (intro w hSw; (try dsimp only at hSw); go_simp; try with_reducible rfl)
      (try simp only [Act.put, List.setIfInBounds_toArray, List.set_cons_zero, List.set_cons_succ])
      refine wpAnyH_take (i := 10) (oi := { dst := some 60, op := Op.pick (Operand.tmp 54) (Operand.const (Value.bool true)) (Operand.tmp 59), type := 4, pos := "law.go:77", after := #[{ on := 4, ground := Ground.data }, { on := 9, ground := Ground.data }], guard := none }) (v := ?_) rfl (by kernel_rfl) (by kernel_rfl) (by kernel_rfl) (fun _ _ _ h => h) (Or.inl ⟨by rfl, ?hyA10⟩) (by assumption) ?_
      case hyA10 => (intro w hSw; (try dsimp only at hSw); go_simp; try with_reducible rfl)
      (try simp only [Act.put, List.setIfInBounds_toArray, List.set_cons_zero, List.set_cons_succ])
      refine wpAnyH_done (by kernel_rfl) ?_ _
      have HBc : Hid (Below wb.heap.size wb wc) := hHeldAxxx.2.2.2.2.2.2.1
      have HB2 : Hid (Below w.heap.size w wc) := next_trans HBb.out HBc.out
      have HTc : Hid (Bx wc TB #[.string tn', .slice po xn pc]) := HTb.out.next HBc.out
      have HXc : Hid (Bx wc P8 #[.string tn', .slice xo xn xc]) := HXb.out.next HBc.out
      have g1 : wc.cell? ⟨P9, 1, none⟩ = some (.int .i64 G) := (HGb.out.next HBc.out).cell 1
      have HSc : Hid (IsTss wc po tl ∧ IsTss wc xo tl ∧ IsTps wc lo T2) := ⟨HSb.out.1.next HBc.out, HSb.out.2.1.next HBc.out, HSb.out.2.2.2.2.next HBc.out⟩
      have hfe := HSb.out.2.2.2.1.ok HMm.out (by rw [HLn.out]; omega)
      clear t0 t1 x0 x1 g0 HTl HOf HSm HTb HXb HGb HBb HBc
      rcases hfe with ⟨rfl, hok⟩ | hfe
      rotate_left
      · have hfb : (G == 0) = false := by simp; exact hfe
        clear HSb
        go_wp2
        go_ret
        exact ⟨rfl, HB2.out⟩
      rw [HPt.out] at hok
      obtain rfl : E = .nilIface := HSb.out.2.2.1.ok hok
      obtain ⟨q, HOk⟩ : ∃ q, Hid (OkP T2 ⟨tn', tl⟩ q) := parP_ok hok
      have HOn : Hid (OneN (slotsAt T2 q)) := one_at HOk.out.at_
      obtain ⟨NX, HNX⟩ : ∃ NX, Hid (ptNd (slotsAt T2 q) ⟨tn', tl⟩ = NX) := ⟨_, rfl⟩
      obtain ⟨NN, HNN⟩ : ∃ NN, Hid (NX.l.length = NN) := ⟨_, rfl⟩
      obtain ⟨NL, HNL⟩ : ∃ NL, Hid (NX.l = NL) := ⟨_, rfl⟩
      have HV : Hid (∀ a c, ndV NX a c = .agg #[.int .i64 (0), .int .i64 (0), .int .i64 (0), .string (⟨#[]⟩), .slice a NN c]) := fun a c => by rw [← HNN.out, ← HNX.out]; rfl
      have HCn : Hid (cntN NX ≤ 100000) := by rw [Hid, ← HNX.out]; exact ptNd_cnt _ _ (by show tl.length ≤ _; rw [Hpn.out]; omega)
      have HNo : Hid (∀ w', Below wc.heap.size wc w' → Calls Tryz.prog 17 #[.agg #[.string tn', .slice po xn pc], .slice lo 2 lc] w' fun e w2 => (∃ A0 c0, e = .returned (.agg #[.int .i64 (0), .int .i64 (0), .int .i64 (0), .string (⟨#[]⟩), .slice A0 NN c0]) ∧ Hid (NN ≤ c0 ∧ IsNds w2 anyB A0 NL)) ∧ Below w'.heap.size w' w2) := by
        intro w' hw
        have := pnode_any T2 2 lo lc ⟨tn', tl⟩ po pc q w' rfl (by omega) T2_len (HSc.out.2.2.next hw) HOk.out.at_ (by show tl.length ≤ _; rw [Hpn.out]; omega) (HSc.out.1.next hw) (fun t ht => (HOk.out.all t ht).lt)
        unfold ptV at this
        simp only at this
        rw [Hpn.out, HNX.out] at this
        refine this.mono ?_
        rintro e w2 ⟨⟨c, rfl, hc⟩, hb⟩
        obtain ⟨h1, h2, h3⟩ := nodeV_of hc
        exact ⟨⟨c.ao, c.cap, by rw [h1, HV.out], by rw [← HNN.out]; exact h2, by rw [← HNL.out]; exact h3⟩, hb⟩
      have HRn : Hid (∀ w' to2 tc2, Below wc.heap.size wc w' → IsTps w' to2 T2 → Calls Tryz.prog 21 #[.agg #[.string tn', .slice xo xn xc], .slice to2 2 tc2] w' fun e w2 => (∃ A0 c0, e = .returned (.agg #[.int .i64 (0), .int .i64 (0), .int .i64 (0), .string (⟨#[]⟩), .slice A0 NN c0]) ∧ Hid (NN ≤ c0 ∧ IsNds w2 anyB A0 NL)) ∧ Below w'.heap.size w' w2) := by
        intro w' to2 tc2 hw ht
        have := rpnode_any T2 2 to2 tc2 ⟨tn', tl⟩ xo xc q w' rfl (by omega) T2_len ht HOk.out.at_ (by show tl.length ≤ _; rw [Hpn.out]; omega) (HSc.out.2.1.next hw) (fun t ht => (HOk.out.all t ht).lt)
        unfold ptV at this
        simp only at this
        rw [Hpn.out, HNX.out] at this
        refine this.mono ?_
        rintro e w2 ⟨⟨c, rfl, hc⟩, hb⟩
        obtain ⟨h1, h2, h3⟩ := nodeV_of hc
        exact ⟨⟨c.ao, c.cap, by rw [h1, HV.out], by rw [← HNN.out]; exact h2, by rw [← HNL.out]; exact h3⟩, hb⟩
      have HPb : Hid (∀ w' A0 c0, Below wc.heap.size wc w' → NN ≤ c0 ∧ IsNds w' anyB A0 NL → Calls Tryz.prog 11 #[.agg #[.int .i64 (0), .int .i64 (0), .int .i64 (0), .string (⟨#[]⟩), .slice A0 NN c0], .slice lo 2 lc] w' fun e w2 => (∃ to2 tc2, e = .returned (.tuple #[.agg #[.string tn', .slice to2 xn tc2], .nilIface]) ∧ IsTss w2 to2 tl) ∧ Below w'.heap.size w' w2) := by
        rintro w' A0 c0 hw ⟨h1, h2⟩
        rw [← HNL.out] at h2
        rw [← HNN.out] at h1
        rw [← HV.out]
        refine (pparse_any T2 2 lo lc NX A0 c0 w' rfl (by omega) T2_len (HSc.out.2.2.next hw) HCn.out h1 h2).mono ?_
        rintro e w2 h
        refine ⟨?_, h.bel⟩
        have hbk : parP T2 NX = .ok ⟨tn', tl⟩ := by rw [← HNX.out]; exact parP_back HOk.out HOn.out
        rcases h.res with ⟨p, to2, tc2, q1, q2, q3⟩ | ⟨a, f, B, q1, _⟩
        · rw [hbk] at q1
          injection q1 with q1
          subst q1
          unfold ptV at q2
          simp only at q2
          rw [Hpn.out] at q2
          exact ⟨to2, tc2, q2, q3⟩
        · rw [hbk] at q1; cases q1
      have HO5 : Hid (∀ w' A0 c0, NN ≤ c0 ∧ IsNds w' anyB A0 NL → Calls Tryz.prog 20 #[.agg #[.int .i64 (0), .int .i64 (0), .int .i64 (0), .string (⟨#[]⟩), .slice A0 NN c0]] w' fun e w2 => (∃ A1 c1, e = .returned (.agg #[.int .i64 (0), .int .i64 (0), .int .i64 (0), .string (⟨#[]⟩), .slice A1 NN c1]) ∧ Hid (NN ≤ c1 ∧ IsNds w2 anyB A1 NL)) ∧ Below w'.heap.size w' w2) := by
        rintro w' A0 c0 ⟨h1, h2⟩
        rw [← HNL.out] at h2
        rw [← HNN.out] at h1
        rw [← HV.out]
        refine (of_any9 _ A0 c0 w' HCn.out h1 h2).mono ?_
        rintro e w2 ⟨⟨A1, c1, q1, q2, q3⟩, hbe⟩
        exact ⟨⟨A1, c1, by rw [q1, HV.out], by rw [← HNN.out]; exact q2, by rw [← HNL.out]; exact q3⟩, hbe⟩
      have HRs : Hid (∀ w' A0 c0 A1 c1, NN ≤ c0 ∧ IsNds w' anyB A0 NL → NN ≤ c1 ∧ IsNds w' anyB A1 NL → Calls Tryz.prog 19 #[.agg #[.int .i64 (0), .int .i64 (0), .int .i64 (0), .string (⟨#[]⟩), .slice A0 NN c0], .agg #[.int .i64 (0), .int .i64 (0), .int .i64 (0), .string (⟨#[]⟩), .slice A1 NN c1]] w' fun e w2 => e = .returned (.bool true) ∧ Below w'.heap.size w' w2) := by
        rintro w' A0 c0 A1 c1 ⟨h1, h2⟩ ⟨h3, h4⟩
        rw [← HNL.out] at h2 h4
        rw [← HNN.out] at h1 h3
        rw [← HV.out, ← HV.out]
        exact rsame_any5 _ _ _ A0 A1 c0 c1 w' (Nat.le_refl _) HCn.out h1 h3 (sim_refl _) h2 h4
      have HSm : Hid (∀ w' to2 tc2, Below wc.heap.size wc w' → IsTss w' to2 tl → Calls Tryz.prog 18 #[.agg #[.string tn', .slice to2 xn tc2], .agg #[.string tn', .slice po xn pc]] w' fun e w2 => e = .returned (.bool true) ∧ Below w'.heap.size w' w2) := by
        intro w' to2 tc2 hw hs
        have := psame_any ⟨tn', tl⟩ to2 po tc2 pc w' (by show tl.length ≤ _; rw [Hpn.out]; omega) hs (HSc.out.1.next hw)
        unfold ptV at this
        simp only at this
        rw [Hpn.out] at this
        exact this
      obtain ⟨VL, HVL⟩ : ∃ VL, Hid (varsL tl = VL) := ⟨_, rfl⟩
      obtain ⟨vl, Hvl⟩ : ∃ vl, Hid (VL.length = vl) := ⟨_, rfl⟩
      have hvl : vl ≤ 1000 := by
        have := vars_len tl []
        rw [show tl.foldl varOne [] = varsL tl from rfl, HVL.out, Hvl.out, Hpn.out] at this
        simp only [List.length_nil] at this
        omega
      have HVa : Hid (∀ w', Below wc.heap.size wc w' → Calls Tryz.prog 23 #[.agg #[.string tn', .slice po xn pc]] w' fun e w2 => (∃ ro rc, e = .returned (.slice ro vl rc) ∧ StrsA w2 ro VL) ∧ Below w'.heap.size w' w2) := by
        intro w' hw
        have := vars_any ⟨tn', tl⟩ po pc w' (by show tl.length ≤ _; rw [Hpn.out]; omega) (HSc.out.1.next hw)
        unfold ptV VsE at this
        simp only at this
        rw [Hpn.out, HVL.out, Hvl.out] at this
        exact this
      have HVr : Hid (∀ w', Below wc.heap.size wc w' → Calls Tryz.prog 24 #[.agg #[.string tn', .slice xo xn xc]] w' fun e w2 => (∃ ro rc, e = .returned (.slice ro vl rc) ∧ StrsA w2 ro VL) ∧ Below w'.heap.size w' w2) := by
        intro w' hw
        have := rvars_any ⟨tn', tl⟩ xo xc w' (by show tl.length ≤ _; rw [Hpn.out]; omega) (HSc.out.2.1.next hw)
        unfold ptV at this
        simp only at this
        rw [Hpn.out, HVL.out] at this
        refine this.mono ?_
        rintro e w2 ⟨⟨ro, rn, rc, h1, h2, h3, _⟩, h5⟩
        rw [Hvl.out] at h2
        subst h2
        exact ⟨⟨ro, rc, h1, h3⟩, h5⟩
      have HNm : Hid (∀ w' ro rc to2 tc2, StrsA w' ro VL → StrsA w' to2 VL → Calls Tryz.prog 22 #[.slice ro vl rc, .slice to2 vl tc2] w' fun e w2 => e = .returned (.bool true) ∧ Below w'.heap.size w' w2) := fun w' ro rc to2 tc2 h1 h2 =>
        lnames_any VL vl ro to2 rc tc2 w' Hvl.out hvl h1 h2
      have t0 : wc.cell? ⟨TB, 0, none⟩ = some (.string tn') := HTc.out.cell 0
      have t1 : wc.cell? ⟨TB, 1, none⟩ = some (.slice po xn pc) := HTc.out.cell 1
      clear hok HSb HV HNX HNN HNL HCn HOk HOn HVL Hvl hvl HSc
      go_wp2_with fail
      refine (HNo.out wc (Below.refl _ _)).mono ?_
      rintro e wd ⟨⟨A0, c0, rfl, hA0⟩, hbd⟩
      obtain ⟨NB, HNB⟩ : ∃ NB, Hid (wd.heap.size = NB) := ⟨_, rfl⟩
      obtain ⟨We, HWe⟩ : ∃ We, Hid (wd.alloc (.cells #[.int .i64 0, .int .i64 0, .int .i64 0, .string ⟨#[]⟩, .slice A0 NN c0] 43) = We) := ⟨_, rfl⟩
      have hbe : Below wd.heap.size wd We := by rw [← HWe.out]; exact alloc_below _ _
      have HBce : Hid (Below wc.heap.size wc We) := next_trans hbd hbe
      have HNe : Hid (Bx We NB #[.int .i64 0, .int .i64 0, .int .i64 0, .string ⟨#[]⟩, .slice A0 NN c0]) := Bx.made' HWe.out HNB.out
      have HAe : Hid (NN ≤ c0 ∧ IsNds We anyB A0 NL) := ⟨hA0.out.1, hA0.out.2.next hbe⟩
      clear hA0 hbd hbe t0 t1 g1 HNo
      go_wp2_with fail
      rw [HWe.out, HNB.out]
      clear HWe HNB
      refine (HPb.out We A0 c0 HBce.out HAe.out).mono ?_
      rintro e wf ⟨⟨go2, gc2, rfl, hs2⟩, hbf⟩
      obtain ⟨GB, HGB⟩ : ∃ GB, Hid (wf.heap.size = GB) := ⟨_, rfl⟩
      obtain ⟨V, HVe⟩ : ∃ V, Hid (wf.alloc (.cells #[.string tn', .slice go2 xn gc2] 36) = V) := ⟨_, rfl⟩
      have hbV : Below wf.heap.size wf V := by rw [← HVe.out]; exact alloc_below _ _
      have hbeV : Below We.heap.size We V := next_trans hbf hbV
      have HBV : Hid (Below wc.heap.size wc V) := next_trans HBce.out hbeV
      have HGV : Hid (Bx V GB #[.string tn', .slice go2 xn gc2]) := Bx.made' HVe.out HGB.out
      have HSV : Hid (IsTss V go2 tl) := hs2.next hbV
      have HAV : Hid (NN ≤ c0 ∧ IsNds V anyB A0 NL) := ⟨HAe.out.1, HAe.out.2.next hbeV⟩
      have HNV : Hid (Bx V NB #[.int .i64 0, .int .i64 0, .int .i64 0, .string ⟨#[]⟩, .slice A0 NN c0]) := HNe.out.next hbeV
      obtain ⟨t0, t1⟩ : V.cell? ⟨TB, 0, none⟩ = some (.string tn') ∧ V.cell? ⟨TB, 1, none⟩ = some (.slice po xn pc) := ⟨(HTc.out.next HBV.out).cell 0, (HTc.out.next HBV.out).cell 1⟩
      obtain ⟨x0, x1⟩ : V.cell? ⟨P8, 0, none⟩ = some (.string tn') ∧ V.cell? ⟨P8, 1, none⟩ = some (.slice xo xn xc) := ⟨(HXc.out.next HBV.out).cell 0, (HXc.out.next HBV.out).cell 1⟩
      obtain ⟨g0, g1⟩ : V.cell? ⟨GB, 0, none⟩ = some (.string tn') ∧ V.cell? ⟨GB, 1, none⟩ = some (.slice go2 xn gc2) := ⟨HGV.out.cell 0, HGV.out.cell 1⟩
      obtain ⟨n0, n1, n2, n3, n4⟩ : V.cell? ⟨NB, 0, none⟩ = some (.int .i64 0) ∧ V.cell? ⟨NB, 1, none⟩ = some (.int .i64 0) ∧ V.cell? ⟨NB, 2, none⟩ = some (.int .i64 0) ∧ V.cell? ⟨NB, 3, none⟩ = some (.string ⟨#[]⟩) ∧ V.cell? ⟨NB, 4, none⟩ = some (.slice A0 NN c0) := ⟨HNV.out.cell 0, HNV.out.cell 1, HNV.out.cell 2, HNV.out.cell 3, HNV.out.cell 4⟩
      clear hbf hbV hbeV hs2 HBce HNe HAe HGV HNV HTc HXc
      go_wp2_with fail
      rw [HVe.out, HGB.out]
      clear HVe HGB
      refine wp_region_held_drew (S := (fun w' => w'.cell? ⟨TB, 0, none⟩ = some (.string tn') ∧ w'.cell? ⟨TB, 1, none⟩ = some (.slice po xn pc) ∧ w'.cell? ⟨P8, 0, none⟩ = some (.string tn') ∧ w'.cell? ⟨P8, 1, none⟩ = some (.slice xo xn xc) ∧ w'.cell? ⟨GB, 0, none⟩ = some (.string tn') ∧ w'.cell? ⟨GB, 1, none⟩ = some (.slice go2 xn gc2) ∧ w'.cell? ⟨NB, 0, none⟩ = some (.int .i64 0) ∧ w'.cell? ⟨NB, 1, none⟩ = some (.int .i64 0) ∧ w'.cell? ⟨NB, 2, none⟩ = some (.int .i64 0) ∧ w'.cell? ⟨NB, 3, none⟩ = some (.string ⟨#[]⟩) ∧ w'.cell? ⟨NB, 4, none⟩ = some (.slice A0 NN c0) ∧ Below V.heap.size V w' ∧ V.heap.size ≤ w'.heap.size)) (by kernel_rfl) ?_ (fun hHeldB => ?_)
      · exact ⟨t0, t1, x0, x1, g0, g1, n0, n1, n2, n3, n4, (Below.refl _ _).drew, (Below.refl V.heap.size V).drew.size⟩
      refine wpAnyH_take (i := 0) (oi := { dst := some 73, op := Op.move (Operand.tmp 12), type := 38, pos := "law.go:85", after := #[], guard := none }) (v := ?_) rfl (by kernel_rfl) (by kernel_rfl) (by kernel_rfl) (fun _ _ _ h => h) (Or.inl ⟨by rfl, ?hyB0⟩) (by assumption) ?_
      case hyB0 => (intro w hSw; (try dsimp only at hSw); go_simp; try with_reducible rfl)
      (try simp only [Act.put, List.setIfInBounds_toArray, List.set_cons_zero, List.set_cons_succ])
      refine wpAnyH_take (i := 1) (oi := { dst := some 74, op := Op.binOp BinOp.eql 38 (Operand.tmp 73) (Operand.const Value.nilIface) 38, type := 4, pos := "law.go:85", after := #[{ on := 0, ground := Ground.data }], guard := none }) (v := ?_) rfl (by kernel_rfl) (by kernel_rfl) (by kernel_rfl) (fun _ _ _ h => h) (Or.inl ⟨by rfl, ?hyB1⟩) (by assumption) ?_
      case hyB1 => (intro w hSw; (try dsimp only at hSw); go_simp; try with_reducible rfl)
      (try simp only [Act.put, List.setIfInBounds_toArray, List.set_cons_zero, List.set_cons_succ])
      refine wpAnyH_take (i := 2) (oi := { dst := some 75, op := Op.move (Operand.tmp 74), type := 4, pos := "law.go:85", after := #[{ on := 1, ground := Ground.data }], guard := none }) (v := ?_) rfl (by kernel_rfl) (by kernel_rfl) (by kernel_rfl) (fun _ _ _ h => h) (Or.inl ⟨by rfl, ?hyB2⟩) (by assumption) ?_
      case hyB2 => (intro w hSw; (try dsimp only at hSw); go_simp; try with_reducible rfl)
      (try simp only [Act.put, List.setIfInBounds_toArray, List.set_cons_zero, List.set_cons_succ])
      refine wpAnyH_take (i := 3) (oi := { dst := some 76, op := Op.load 36 (Operand.tmp 11), type := 36, pos := "law.go:85", after := #[{ on := 2, ground := Ground.guard }], guard := some (2, true) }) (v := ?_) rfl (by kernel_rfl) (by kernel_rfl) (by kernel_rfl) (fun _ _ _ h => h) (Or.inl ⟨by rfl, ?hyB3⟩) (by assumption) ?_
      case hyB3 => (intro w hSw; (try dsimp only at hSw); go_simp; try with_reducible rfl)
      (try simp only [Act.put, List.setIfInBounds_toArray, List.set_cons_zero, List.set_cons_succ])
      refine wpAnyH_take (i := 4) (oi := { dst := some 77, op := Op.load 36 (Operand.tmp 6), type := 36, pos := "law.go:85", after := #[{ on := 2, ground := Ground.guard }], guard := some (2, true) }) (v := ?_) rfl (by kernel_rfl) (by kernel_rfl) (by kernel_rfl) (fun _ _ _ h => h) (Or.inl ⟨by rfl, ?hyB4⟩) (by assumption) ?_
      case hyB4 => (intro w hSw; (try dsimp only at hSw); go_simp; try with_reducible rfl)
      (try simp only [Act.put, List.setIfInBounds_toArray, List.set_cons_zero, List.set_cons_succ])
      refine wpAnyH_ready (rs := [5]) (by kernel_rfl) (by simp) ?_
      refine AllReadyH.cons (o := { dst := some 78, op := Op.call { callee := Callee.value (Operand.func 18), args := #[Operand.tmp 76, Operand.tmp 77], argTypes := #[36, 36] }, type := 4, pos := "law.go:85", after := #[{ on := 3, ground := Ground.data }, { on := 4, ground := Ground.data }, { on := 2, ground := Ground.chain }, { on := 2, ground := Ground.guard }], guard := some (2, true) }) rfl (fun K hK => ?_) AllReadyH.nil
      go_simp
      refine (HSm.out _ _ _ (next_trans HBV.out (hHeldB.2.2.2.2.2.2.2.2.2.2.2.1)) (HSV.out.next (hHeldB.2.2.2.2.2.2.2.2.2.2.2.1))).mono ?_
      rintro e v1 ⟨rfl, hb⟩
      refine hK.out _ _ ?_ (fun hHeldBx => ?_)
      · obtain ⟨q0, q1, q2, q3, q4, q5, q6, q7, q8, q9, q10, q11, q12⟩ := hHeldB
        exact ⟨keep_cell hb q0, keep_cell hb q1, keep_cell hb q2, keep_cell hb q3, keep_cell hb q4, keep_cell hb q5, keep_cell hb q6, keep_cell hb q7, keep_cell hb q8, keep_cell hb q9, keep_cell hb q10, below_next q11 hb q12, le_next q12 hb⟩
      clear hK K hb hHeldB
      (try simp only [Act.put, List.setIfInBounds_toArray, List.set_cons_zero, List.set_cons_succ])
      refine wpAnyH_take (i := 6) (oi := { dst := some 79, op := Op.pick (Operand.tmp 75) (Operand.tmp 78) (Operand.const (Value.bool false)), type := 4, pos := "law.go:85", after := #[{ on := 2, ground := Ground.data }, { on := 5, ground := Ground.data }], guard := none }) (v := ?_) rfl (by kernel_rfl) (by kernel_rfl) (by kernel_rfl) (fun _ _ _ h => h) (Or.inl ⟨by rfl, ?hyB6⟩) (by assumption) ?_
      case hyB6 => (intro w hSw; (try dsimp only at hSw); go_simp; try with_reducible rfl)
      (try simp only [Act.put, List.setIfInBounds_toArray, List.set_cons_zero, List.set_cons_succ])
      refine wpAnyH_take (i := 7) (oi := { dst := some 80, op := Op.move (Operand.tmp 79), type := 4, pos := "law.go:85", after := #[{ on := 6, ground := Ground.data }, { on := 5, ground := Ground.chain }], guard := none }) (v := ?_) rfl (by kernel_rfl) (by kernel_rfl) (by kernel_rfl) (fun _ _ _ h => h) (Or.inl ⟨by rfl, ?hyB7⟩) (by assumption) ?_
      case hyB7 => (intro w hSw; (try dsimp only at hSw); go_simp; try with_reducible rfl)
      (try simp only [Act.put, List.setIfInBounds_toArray, List.set_cons_zero, List.set_cons_succ])
      refine wpAnyH_take (i := 8) (oi := { dst := some 81, op := Op.load 43 (Operand.tmp 10), type := 43, pos := "law.go:85", after := #[{ on := 7, ground := Ground.guard }], guard := some (7, true) }) (v := ?_) rfl (by kernel_rfl) (by kernel_rfl) (by kernel_rfl) (fun _ _ _ h => h) (Or.inl ⟨by rfl, ?hyB8⟩) (by assumption) ?_
      case hyB8 => (intro w hSw; (try dsimp only at hSw); go_simp; try with_reducible rfl)
      (try simp only [Act.put, List.setIfInBounds_toArray, List.set_cons_zero, List.set_cons_succ])
      refine wpAnyH_take (i := 10) (oi := { dst := some 83, op := Op.load 49 (Operand.tmp 8), type := 49, pos := "law.go:85", after := #[{ on := 7, ground := Ground.guard }], guard := some (7, true) }) (v := ?_) rfl (by kernel_rfl) (by kernel_rfl) (by kernel_rfl) (fun _ _ _ h => h) (Or.inl ⟨by rfl, ?hyB10⟩) (by assumption) ?_
      case hyB10 => (intro w hSw; (try dsimp only at hSw); go_simp; try with_reducible rfl)
      (try simp only [Act.put, List.setIfInBounds_toArray, List.set_cons_zero, List.set_cons_succ])
      refine wpAnyH_ready (rs := [9]) (by kernel_rfl) (by simp) ?_
      refine AllReadyH.cons (o := { dst := some 82, op := Op.call { callee := Callee.value (Operand.func 20), args := #[Operand.tmp 81], argTypes := #[43] }, type := 46, pos := "law.go:85", after := #[{ on := 8, ground := Ground.data }, { on := 7, ground := Ground.chain }, { on := 7, ground := Ground.guard }], guard := some (7, true) }) rfl (fun K hK => ?_) AllReadyH.nil
      go_simp
      refine (HO5.out _ _ _ ⟨HAV.out.1, HAV.out.2.next (hHeldBx.2.2.2.2.2.2.2.2.2.2.2.1)⟩).mono ?_
      rintro e v2 ⟨⟨A1, c1, rfl, hA1⟩, hb⟩
      have HA1 : Hid (NN ≤ c1 ∧ IsNds v2 anyB A1 NL) := hA1.out
      clear hA1
      refine hK.out _ _ ?_ (fun hHeldBxx => ?_)
      · obtain ⟨q0, q1, q2, q3, q4, q5, q6, q7, q8, q9, q10, q11, q12⟩ := hHeldBx
        exact ⟨keep_cell hb q0, keep_cell hb q1, keep_cell hb q2, keep_cell hb q3, keep_cell hb q4, keep_cell hb q5, keep_cell hb q6, keep_cell hb q7, keep_cell hb q8, keep_cell hb q9, keep_cell hb q10, below_next q11 hb q12, le_next q12 hb⟩
      clear hK K hb hHeldBx
      (try simp only [Act.put, List.setIfInBounds_toArray, List.set_cons_zero, List.set_cons_succ])
      refine wpAnyH_ready (rs := [11]) (by kernel_rfl) (by simp) ?_
      refine AllReadyH.cons (o := { dst := some 84, op := Op.call { callee := Callee.value (Operand.func 10), args := #[], argTypes := #[] }, type := 32, pos := "law.go:85", after := #[{ on := 9, ground := Ground.chain }, { on := 7, ground := Ground.guard }], guard := some (7, true) }) rfl (fun K hK => ?_) AllReadyH.nil
      go_simp
      refine (two_any _).mono ?_
      rintro e v3 ⟨⟨to2, tc2, rfl, ht3⟩, hb⟩
      have HT3 : Hid (IsTps v3 to2 T2) := ht3
      have HA3 : Hid (NN ≤ c1 ∧ IsNds v3 anyB A1 NL) := ⟨HA1.out.1, HA1.out.2.next hb⟩
      clear ht3
      refine hK.out _ _ ?_ (fun hHeldBxxx => ?_)
      · obtain ⟨q0, q1, q2, q3, q4, q5, q6, q7, q8, q9, q10, q11, q12⟩ := hHeldBxx
        exact ⟨keep_cell hb q0, keep_cell hb q1, keep_cell hb q2, keep_cell hb q3, keep_cell hb q4, keep_cell hb q5, keep_cell hb q6, keep_cell hb q7, keep_cell hb q8, keep_cell hb q9, keep_cell hb q10, below_next q11 hb q12, le_next q12 hb⟩
      clear hK K hb hHeldBxx
      (try simp only [Act.put, List.setIfInBounds_toArray, List.set_cons_zero, List.set_cons_succ])
      refine wpAnyH_ready (rs := [12]) (by kernel_rfl) (by simp) ?_
      refine AllReadyH.cons (o := { dst := some 85, op := Op.call { callee := Callee.value (Operand.func 21), args := #[Operand.tmp 83, Operand.tmp 84], argTypes := #[49, 32] }, type := 46, pos := "law.go:85", after := #[{ on := 10, ground := Ground.data }, { on := 11, ground := Ground.data }, { on := 11, ground := Ground.chain }, { on := 7, ground := Ground.guard }], guard := some (7, true) }) rfl (fun K hK => ?_) AllReadyH.nil
      go_simp
      refine (HRn.out _ _ _ (next_trans HBV.out (hHeldBxxx.2.2.2.2.2.2.2.2.2.2.2.1)) HT3.out).mono ?_
      rintro e v4 ⟨⟨A4, c4, rfl, hA4⟩, hb⟩
      have HA4 : Hid ((NN ≤ c1 ∧ IsNds v4 anyB A1 NL) ∧ NN ≤ c4 ∧ IsNds v4 anyB A4 NL) := ⟨⟨HA3.out.1, HA3.out.2.next hb⟩, hA4.out⟩
      clear hA4
      refine hK.out _ _ ?_ (fun hHeldBxxxx => ?_)
      · obtain ⟨q0, q1, q2, q3, q4, q5, q6, q7, q8, q9, q10, q11, q12⟩ := hHeldBxxx
        exact ⟨keep_cell hb q0, keep_cell hb q1, keep_cell hb q2, keep_cell hb q3, keep_cell hb q4, keep_cell hb q5, keep_cell hb q6, keep_cell hb q7, keep_cell hb q8, keep_cell hb q9, keep_cell hb q10, below_next q11 hb q12, le_next q12 hb⟩
      clear hK K hb hHeldBxxx
      (try simp only [Act.put, List.setIfInBounds_toArray, List.set_cons_zero, List.set_cons_succ])
      refine wpAnyH_ready (rs := [13]) (by kernel_rfl) (by simp) ?_
      refine AllReadyH.cons (o := { dst := some 86, op := Op.call { callee := Callee.value (Operand.func 19), args := #[Operand.tmp 82, Operand.tmp 85], argTypes := #[46, 46] }, type := 4, pos := "law.go:85", after := #[{ on := 9, ground := Ground.data }, { on := 12, ground := Ground.data }, { on := 12, ground := Ground.chain }, { on := 7, ground := Ground.guard }], guard := some (7, true) }) rfl (fun K hK => ?_) AllReadyH.nil
      go_simp
      refine (HRs.out _ _ _ _ _ HA4.out.1 HA4.out.2).mono ?_
      rintro e v5 ⟨rfl, hb⟩
      refine hK.out _ _ ?_ (fun hHeldBxxxxx => ?_)
      · obtain ⟨q0, q1, q2, q3, q4, q5, q6, q7, q8, q9, q10, q11, q12⟩ := hHeldBxxxx
        exact ⟨keep_cell hb q0, keep_cell hb q1, keep_cell hb q2, keep_cell hb q3, keep_cell hb q4, keep_cell hb q5, keep_cell hb q6, keep_cell hb q7, keep_cell hb q8, keep_cell hb q9, keep_cell hb q10, below_next q11 hb q12, le_next q12 hb⟩
      clear hK K hb hHeldBxxxx
      (try simp only [Act.put, List.setIfInBounds_toArray, List.set_cons_zero, List.set_cons_succ])
      refine wpAnyH_take (i := 14) (oi := { dst := some 87, op := Op.pick (Operand.tmp 80) (Operand.tmp 86) (Operand.const (Value.bool false)), type := 4, pos := "law.go:85", after := #[{ on := 7, ground := Ground.data }, { on := 13, ground := Ground.data }], guard := none }) (v := ?_) rfl (by kernel_rfl) (by kernel_rfl) (by kernel_rfl) (fun _ _ _ h => h) (Or.inl ⟨by rfl, ?hyB14⟩) (by assumption) ?_
      case hyB14 => (intro w hSw; (try dsimp only at hSw); go_simp; try with_reducible rfl)
      (try simp only [Act.put, List.setIfInBounds_toArray, List.set_cons_zero, List.set_cons_succ])
      refine wpAnyH_take (i := 15) (oi := { dst := some 88, op := Op.move (Operand.tmp 87), type := 4, pos := "law.go:85", after := #[{ on := 14, ground := Ground.data }, { on := 13, ground := Ground.chain }], guard := none }) (v := ?_) rfl (by kernel_rfl) (by kernel_rfl) (by kernel_rfl) (fun _ _ _ h => h) (Or.inl ⟨by rfl, ?hyB15⟩) (by assumption) ?_
      case hyB15 => (intro w hSw; (try dsimp only at hSw); go_simp; try with_reducible rfl)
      (try simp only [Act.put, List.setIfInBounds_toArray, List.set_cons_zero, List.set_cons_succ])
      refine wpAnyH_take (i := 16) (oi := { dst := some 89, op := Op.load 36 (Operand.tmp 6), type := 36, pos := "law.go:85", after := #[{ on := 15, ground := Ground.guard }], guard := some (15, true) }) (v := ?_) rfl (by kernel_rfl) (by kernel_rfl) (by kernel_rfl) (fun _ _ _ h => h) (Or.inl ⟨by rfl, ?hyB16⟩) (by assumption) ?_
      case hyB16 => (intro w hSw; (try dsimp only at hSw); go_simp; try with_reducible rfl)
      (try simp only [Act.put, List.setIfInBounds_toArray, List.set_cons_zero, List.set_cons_succ])
      refine wpAnyH_take (i := 18) (oi := { dst := some 91, op := Op.load 49 (Operand.tmp 8), type := 49, pos := "law.go:85", after := #[{ on := 15, ground := Ground.guard }], guard := some (15, true) }) (v := ?_) rfl (by kernel_rfl) (by kernel_rfl) (by kernel_rfl) (fun _ _ _ h => h) (Or.inl ⟨by rfl, ?hyB18⟩) (by assumption) ?_
      case hyB18 => (intro w hSw; (try dsimp only at hSw); go_simp; try with_reducible rfl)
      (try simp only [Act.put, List.setIfInBounds_toArray, List.set_cons_zero, List.set_cons_succ])
      refine wpAnyH_ready (rs := [17]) (by kernel_rfl) (by simp) ?_
      refine AllReadyH.cons (o := { dst := some 90, op := Op.call { callee := Callee.value (Operand.func 23), args := #[Operand.tmp 89], argTypes := #[36] }, type := 61, pos := "law.go:85", after := #[{ on := 16, ground := Ground.data }, { on := 15, ground := Ground.chain }, { on := 15, ground := Ground.guard }], guard := some (15, true) }) rfl (fun K hK => ?_) AllReadyH.nil
      go_simp
      refine (HVa.out _ (next_trans HBV.out (hHeldBxxxxx.2.2.2.2.2.2.2.2.2.2.2.1))).mono ?_
      rintro e v6 ⟨⟨ro6, rc6, rfl, hs6⟩, hb⟩
      have HS6 : Hid (StrsA v6 ro6 VL) := hs6
      clear hs6
      refine hK.out _ _ ?_ (fun hHeldBxxxxxx => ?_)
      · obtain ⟨q0, q1, q2, q3, q4, q5, q6, q7, q8, q9, q10, q11, q12⟩ := hHeldBxxxxx
        exact ⟨keep_cell hb q0, keep_cell hb q1, keep_cell hb q2, keep_cell hb q3, keep_cell hb q4, keep_cell hb q5, keep_cell hb q6, keep_cell hb q7, keep_cell hb q8, keep_cell hb q9, keep_cell hb q10, below_next q11 hb q12, le_next q12 hb⟩
      clear hK K hb hHeldBxxxxx
      (try simp only [Act.put, List.setIfInBounds_toArray, List.set_cons_zero, List.set_cons_succ])
      refine wpAnyH_ready (rs := [19]) (by kernel_rfl) (by simp) ?_
      refine AllReadyH.cons (o := { dst := some 92, op := Op.call { callee := Callee.value (Operand.func 24), args := #[Operand.tmp 91], argTypes := #[49] }, type := 61, pos := "law.go:85", after := #[{ on := 18, ground := Ground.data }, { on := 17, ground := Ground.chain }, { on := 15, ground := Ground.guard }], guard := some (15, true) }) rfl (fun K hK => ?_) AllReadyH.nil
      go_simp
      refine (HVr.out _ (next_trans HBV.out (hHeldBxxxxxx.2.2.2.2.2.2.2.2.2.2.2.1))).mono ?_
      rintro e v7 ⟨⟨ro7, rc7, rfl, hs7⟩, hb⟩
      have HS7 : Hid (StrsA v7 ro6 VL ∧ StrsA v7 ro7 VL) := ⟨HS6.out.next hb, hs7⟩
      clear hs7
      refine hK.out _ _ ?_ (fun hHeldBxxxxxxx => ?_)
      · obtain ⟨q0, q1, q2, q3, q4, q5, q6, q7, q8, q9, q10, q11, q12⟩ := hHeldBxxxxxx
        exact ⟨keep_cell hb q0, keep_cell hb q1, keep_cell hb q2, keep_cell hb q3, keep_cell hb q4, keep_cell hb q5, keep_cell hb q6, keep_cell hb q7, keep_cell hb q8, keep_cell hb q9, keep_cell hb q10, below_next q11 hb q12, le_next q12 hb⟩
      clear hK K hb hHeldBxxxxxx
      (try simp only [Act.put, List.setIfInBounds_toArray, List.set_cons_zero, List.set_cons_succ])
      refine wpAnyH_ready (rs := [20]) (by kernel_rfl) (by simp) ?_
      refine AllReadyH.cons (o := { dst := some 93, op := Op.call { callee := Callee.value (Operand.func 22), args := #[Operand.tmp 90, Operand.tmp 92], argTypes := #[61, 61] }, type := 4, pos := "law.go:85", after := #[{ on := 17, ground := Ground.data }, { on := 19, ground := Ground.data }, { on := 19, ground := Ground.chain }, { on := 15, ground := Ground.guard }], guard := some (15, true) }) rfl (fun K hK => ?_) AllReadyH.nil
      go_simp
      refine (HNm.out _ _ _ _ _ HS7.out.1 HS7.out.2).mono ?_
      rintro e v8 ⟨rfl, hb⟩
      refine hK.out _ _ ?_ (fun hHeldBxxxxxxxx => ?_)
      · obtain ⟨q0, q1, q2, q3, q4, q5, q6, q7, q8, q9, q10, q11, q12⟩ := hHeldBxxxxxxx
        exact ⟨keep_cell hb q0, keep_cell hb q1, keep_cell hb q2, keep_cell hb q3, keep_cell hb q4, keep_cell hb q5, keep_cell hb q6, keep_cell hb q7, keep_cell hb q8, keep_cell hb q9, keep_cell hb q10, below_next q11 hb q12, le_next q12 hb⟩
      clear hK K hb hHeldBxxxxxxx
      (try simp only [Act.put, List.setIfInBounds_toArray, List.set_cons_zero, List.set_cons_succ])
      refine wpAnyH_take (i := 21) (oi := { dst := some 94, op := Op.pick (Operand.tmp 88) (Operand.tmp 93) (Operand.const (Value.bool false)), type := 4, pos := "law.go:85", after := #[{ on := 15, ground := Ground.data }, { on := 20, ground := Ground.data }], guard := none }) (v := ?_) rfl (by kernel_rfl) (by kernel_rfl) (by kernel_rfl) (fun _ _ _ h => h) (Or.inl ⟨by rfl, ?hyB21⟩) (by assumption) ?_
      case hyB21 => (intro w hSw; (try dsimp only at hSw); go_simp; try with_reducible rfl)
      (try simp only [Act.put, List.setIfInBounds_toArray, List.set_cons_zero, List.set_cons_succ])
      refine wpAnyH_take (i := 22) (oi := { dst := some 2, op := Op.assign (Operand.tmp 94), type := 4, pos := "law.go:85", after := #[{ on := 21, ground := Ground.data }, { on := 20, ground := Ground.chain }, { on := 0, ground := Ground.phase }, { on := 1, ground := Ground.phase }, { on := 2, ground := Ground.phase }, { on := 3, ground := Ground.phase }, { on := 4, ground := Ground.phase }, { on := 5, ground := Ground.phase }, { on := 6, ground := Ground.phase }, { on := 7, ground := Ground.phase }, { on := 8, ground := Ground.phase }, { on := 9, ground := Ground.phase }, { on := 10, ground := Ground.phase }, { on := 11, ground := Ground.phase }, { on := 12, ground := Ground.phase }, { on := 13, ground := Ground.phase }, { on := 14, ground := Ground.phase }, { on := 15, ground := Ground.phase }, { on := 16, ground := Ground.phase }, { on := 17, ground := Ground.phase }, { on := 18, ground := Ground.phase }, { on := 19, ground := Ground.phase }, { on := 20, ground := Ground.phase }, { on := 21, ground := Ground.phase }], guard := none }) (v := ?_) rfl (by kernel_rfl) (by kernel_rfl) (by kernel_rfl) (fun _ _ _ h => h) (Or.inl ⟨by rfl, ?hyB22⟩) (by assumption) ?_
      case hyB22 => (intro w hSw; (try dsimp only at hSw); go_simp; try with_reducible rfl)
      (try simp only [Act.put, List.setIfInBounds_toArray, List.set_cons_zero, List.set_cons_succ])
      refine wpAnyH_done (by kernel_rfl) ?_ _
      have HBe : Hid (Below w.heap.size w _) := next_trans HB2.out (next_trans HBV.out (hHeldBxxxxxxxx.2.2.2.2.2.2.2.2.2.2.2.1))
      go_wp2
      go_ret
      exact ⟨rfl, HBe.out⟩
end Go.Proofs.YtnhbjhdkpbhioaaGreatDoor
