import Derived.Test.YtnhbjhdkpbhioaaGreatDoorPlKnow
import Derived.Test.YtnhbjhdkpbhioaaGreatDoorPrMid
import Derived.Test.YtnhbjhdkpbhioaaGreatDoorPrTo11
import Derived.Test.YtnhbjhdkpbhioaaGreatDoorH5
import Derived.Test.YtnhbjhdkpbhioaaGreatDoorPrMatch
import Derived.Test.YtnhbjhdkpbhioaaGreatDoorPrAlone
namespace Go.Proofs.YtnhbjhdkpbhioaaGreatDoor
open Go.RowKit
def MtU (w' : World) (G : List Sl) (r : Bool) (e : Ending) : Prop := ∃ ro rc, e = .returned (.tuple #[.slice ro G.length rc, .bool r]) ∧ IsSls w' ro G
theorem MtE.u {w' : World} {Q : Option (List Sl)} {e : Ending} (h : MtE w' Q e) : MtU w' (Q.getD []) Q.isSome e := by
  cases Q with
  | none => exact ⟨none, 0, h, IsSls.nil _ _⟩
  | some G => exact h
theorem mat_len {P : Ptn} {f : Fc} {E : List Sl} : ((matP P f E).getD []).length ≤ E.length + P.l.length := by
  cases h : matP P f E with
  | none => exact Nat.zero_le _
  | some G =>
    unfold matP at h
    split at h
    · exact matchL_len h
    · cases h
set_option linter.unusedSimpArgs false in
set_option maxHeartbeats 16000000 in
set_option maxRecDepth 8000 in
theorem matches11_walk (ao : Option Addr) (n cap : Nat) (l : List UInt8) (id : Int) (ft : ByteArray) (fo : Option Addr) (N fc : Nat) (L : List Val) (eo : Option Addr) (EN ec : Nat) (E : List Sl) (w : World) (hl : l.length = n) (h : IsB w ao l) (hc : n ≤ cap)
    (hL : L.length = N) (hv : IsVals w fo L) (hvw : ∀ v ∈ L, inB v.k = true ∧ inB v.i = true ∧ v.s.size ≤ maxLen) (_hin : inB id = true) (_hfs : ft.size ≤ maxLen)
    (hE : E.length = EN) (hEs : IsSls w eo E) (hEw : ∀ s ∈ E, s.n.size ≤ maxLen ∧ (inB s.k = true ∧ inB s.i = true ∧ s.s.size ≤ maxLen)) (hEn : eo = none → EN = 0 ∧ ec = 0) (h4 : TabW w ∧ MaxW w) :
    Calls Tryz.prog 4 #[.slice ao n cap, .agg #[.int .i64 id, .string ft, .slice fo N fc], .slice eo EN ec] w fun e w' => e = .returned (.bool true) ∧ Below w.heap.size w w' := by
  have H4 : Hid (TabW w ∧ MaxW w) := h4
  have HI : Hid (IsB w ao l) := h
  have HLn : Hid (l.length = n) := hl
  have HL : Hid (L.length = N) := hL
  have HV : Hid (IsVals w fo L) := hv
  have HVw : Hid (∀ v ∈ L, v.s.size ≤ 9223372036854775807) := fun v hv => (hvw v hv).2.2
  have HEl : Hid (E.length = EN) := hE
  have HEs : Hid (IsSls w eo E) := hEs
  have HEw : Hid (∀ s ∈ E, s.s.size ≤ 9223372036854775807) := fun s hs => (hEw s hs).2.2.2
  have HEn : Hid (eo = none → EN = 0 ∧ ec = 0) := hEn
  clear h hl h4 hL hv hvw hE hEs hEw hEn
  obtain ⟨FB, HFB⟩ : ∃ FB, Hid (w.heap.size = FB) := ⟨_, rfl⟩
  obtain ⟨W0, HW0⟩ : ∃ W0, Hid (w.alloc (.cells #[.int .i64 id, .string ft, .slice fo N fc] 66) = W0) := ⟨_, rfl⟩
  have HX0 : Hid (Bx W0 FB #[.int .i64 id, .string ft, .slice fo N fc]) := Bx.made' HW0.out HFB.out
  have HB0 : Hid (Below w.heap.size w W0) := by rw [← HW0.out]; exact alloc_below _ _
  go_enter Tryz.func4, Tryz.ntmps4
  go_wp2_with fail
  rw [HW0.out, HFB.out]
  refine (known11 W0 (tab_next H4.out.1 HB0.out) (H4.out.2.next HB0.out)).mono ?_
  rintro e w1 ⟨rfl, hb1⟩
  have HB1 : Hid (Below w.heap.size w w1) := next_trans HB0.out hb1
  have HX1 : Hid (Bx w1 FB #[.int .i64 id, .string ft, .slice fo N fc]) := HX0.out.next hb1
  have x1 : w1.cell? ⟨FB, 1, none⟩ = some (.string ft) := HX1.out.cell 1
  have x2 : w1.cell? ⟨FB, 2, none⟩ = some (.slice fo N fc) := HX1.out.cell 2
  have hl1 : FB < w1.heap.size := HX1.out.lt
  clear hb1 HX0 HB0 HW0
  by_cases hn : 2000 < n
  · have hni : (2000 : Int) < (n : Int) := by omega
    go_wp2
    go_ret
    exact ⟨rfl, HB1.out⟩
  have hni : ¬ (2000 : Int) < (n : Int) := by omega
  by_cases hN : 20 < N
  · have hNi : (20 : Int) < (N : Int) := by omega
    go_wp2
    go_ret
    exact ⟨rfl, HB1.out⟩
  have hNi : ¬ (20 : Int) < (N : Int) := by omega
  by_cases hT : 100 < ft.size
  · have hTi : (100 : Int) < (ft.size : Int) := by omega
    go_wp2
    go_ret
    exact ⟨rfl, HB1.out⟩
  have hTi : ¬ (100 : Int) < (ft.size : Int) := by omega
  have HBr : Hid (Calls Tryz.prog 25 #[.slice eo EN ec] w1 fun e w' => BrE EN e ∧ Below w1.heap.size w1 w') := bright8_any E EN eo ec w1 HEl.out (HEs.out.next HB1.out) HEw.out
  go_wp2_with fail
  refine HBr.out.mono ?_
  rintro e w2 ⟨⟨r, rfl, hr⟩, hb2⟩
  have HB2 : Hid (Below w.heap.size w w2) := next_trans HB1.out hb2
  have HX2 : Hid (Bx w2 FB #[.int .i64 id, .string ft, .slice fo N fc]) := HX1.out.next hb2
  clear hb2 x1 x2 hl1 HBr HX1 HB1
  cases r with
  | false =>
    clear hr
    go_wp2
    go_ret
    exact ⟨rfl, HB2.out⟩
  | true =>
  have hEN : EN ≤ 30 := hr rfl
  clear hr
  go_wp2
  go_loopw [7] (fun q wr => ∃ k : Nat, k ≤ N ∧ q = .int .i64 k ∧ Hid (Below w2.heap.size w2 wr)) (fun q _ => N - (intOf q).toNat)
  case atStart => exact ⟨0, Nat.zero_le _, rfl, Below.refl _ _⟩
  case round =>
    obtain ⟨k, hk, rfl, HBq⟩ := hrel
    have HXr : Hid (Bx wr FB #[.int .i64 id, .string ft, .slice fo N fc]) := HX2.out.next HBq.out
    have x2 : wr.cell? ⟨FB, 2, none⟩ = some (.slice fo N fc) := HXr.out.cell 2
    by_cases hlt : k < N
    · have hki : (k : Int) < (N : Int) := by omega
      have hk0 : (0 : Int) ≤ (k : Int) := by omega
      obtain ⟨v, hv⟩ : ∃ v, L[k]? = some v := ⟨_, List.getElem?_eq_getElem (by rw [HL.out]; exact hlt)⟩
      obtain ⟨b4, o4, rfl, c0, c1, c2⟩ := (HV.out.next (next_trans HB2.out HBq.out)) k v hv
      have hsz := HVw.out v (List.mem_of_getElem? hv)
      obtain ⟨vk, vi, vt⟩ := v
      simp only at c0 c1 c2 hsz
      obtain ⟨rb, Hrb⟩ : ∃ rb, Hid (rightB vk vi vt = rb) := ⟨_, rfl⟩
      have HRg : Hid (∀ w', Calls Tryz.prog 26 #[.agg #[.int .i64 (vk), .int .i64 (vi), .string (vt)]] w' fun e w2 => e = .returned (.bool rb) ∧ Below w'.heap.size w' w2) := by
        intro w'; rw [← Hrb.out]; exact brright_any vk vi vt w' hsz
      clear hv hsz Hrb
      go_wp2_with fail
      refine (HRg.out _).mono ?_
      rintro e w5 ⟨rfl, hb5⟩
      have HB5 : Hid (Below w2.heap.size w2 w5) := next_trans HBq.out hb5
      clear hb5 c0 c1 c2 HXr x2 HRg
      cases rb with
      | false =>
        go_wp2
        go_ret
        exact ⟨rfl, next_trans HB2.out HB5.out⟩
      | true =>
        go_wp2
        go_roundw
        case rel => exact ⟨k + 1, by omega, by go_num, HB5⟩
        case measure => simp [intOf]; omega
    · have hki : ¬ (k : Int) < (N : Int) := by omega
      have HB3 : Hid (Below w.heap.size w wr) := next_trans HB2.out HBq.out
      obtain ⟨R, HR⟩ : ∃ R, Hid (readQ l = R) := ⟨_, rfl⟩
      clear HX2 HBq HVw HEw HB2
      by_cases he : R.e = 0
      rotate_left
      · have HRd : Hid (Calls Tryz.prog 8 #[.slice ao n cap] wr fun e w' => (∃ b, e = .returned (.tuple #[.slice none 0 0, .agg #[.slice (some ⟨b, 0, none⟩) 1 1, .int .i64 R.e]])) ∧ Below wr.heap.size wr w') :=
          mread_no ao n cap l R wr HLn.out (HI.out.next HB3.out) (by omega) hc HR.out he
        have heb : (R.e == 0) = false := by simp; exact he
        go_wp2_with fail
        refine HRd.out.mono ?_
        rintro e w4 ⟨⟨b, rfl⟩, hb4⟩
        have HB4 : Hid (Below w.heap.size w w4) := next_trans HB3.out hb4
        clear hb4 HRd x2 HXr
        go_wp2
        go_ret
        exact ⟨rfl, next_trans HB4.out (alloc_below _ _)⟩
      have HBd : Hid (WfL R.l ∧ ∀ x ∈ R.l, NdB x) := by
        obtain ⟨h1, _, _, _, h5⟩ := read_bnd l R HR.out he (by rw [HLn.out]; omega)
        exact ⟨h1, h5⟩
      obtain ⟨NL, ra, re⟩ := R
      simp only at he HBd
      subst he
      have HRd : Hid (Calls Tryz.prog 8 #[.slice ao n cap] wr fun e w' => (∃ ao cap, e = .returned (.tuple #[.slice ao NL.length cap, .agg #[.slice none 0 0, .int .i64 0]]) ∧ NL.length ≤ cap ∧ IsNds w' anyB ao NL) ∧ Below wr.heap.size wr w') :=
        mread_yes ao n cap l NL wr HLn.out (HI.out.next HB3.out) (by omega) hc ra HR.out
      cases NL with
      | nil =>
        go_wp2_with fail
        refine HRd.out.mono ?_
        rintro e w4 ⟨⟨a2, c2, rfl, _⟩, hb4⟩
        have HB4 : Hid (Below w.heap.size w w4) := next_trans HB3.out hb4
        simp only [List.length_nil]
        clear hb4 HRd x2 HXr
        go_wp2
        go_ret
        exact ⟨rfl, next_trans HB4.out (alloc_below _ _)⟩
      | cons x r =>
        have hr1 : ((((x :: r).length : Nat) : Int) == 0) = false := by simp only [List.length_cons]; simp; omega
        obtain ⟨Q, HQ⟩ : ∃ Q, Hid ((x :: r).length = Q) := ⟨_, rfl⟩
        have hQ : 0 < (Q : Int) := by have := HQ.out; simp only [List.length_cons] at this; omega
        have hQn : 0 < Q := by omega
        rw [HQ.out] at HRd hr1
        go_wp2_with fail
        refine HRd.out.mono ?_
        rintro e w4 ⟨⟨a2, c2, rfl, hcq, hN4⟩, hb4⟩
        obtain ⟨W5, HW5⟩ : ∃ W5, Hid (w4.alloc (.cells #[.slice none 0 0, .int .i64 0] 27) = W5) := ⟨_, rfl⟩
        have hb5 : Below w4.heap.size w4 W5 := by rw [← HW5.out]; exact alloc_below _ _
        have HB5 : Hid (Below w.heap.size w W5) := next_trans HB3.out (next_trans hb4 hb5)
        have HX5 : Hid (Bx W5 FB #[.int .i64 id, .string ft, .slice fo N fc]) := HXr.out.next (next_trans hb4 hb5)
        obtain ⟨b, o, a0, cap0, K, A, I, Y, M, rfl, H, Hx, hK, HM⟩ := kid_get (j := 0) (hN4.next hb5) rfl
        have HNd : Hid (NdB x) := HBd.out.2 x (by simp)
        rw [Nat.zero_mul, Nat.add_zero] at hK
        have HPr : Hid (∀ w' to tc, Below W5.heap.size W5 w' → IsTps w' to T2 → Calls Tryz.prog 13 #[.agg #[.int .i64 (K), .int .i64 (A), .int .i64 (I), .string (Y), .slice a0 M cap0], .slice to 2 tc] w' fun e w'' => (∃ (tn : ByteArray) (po : Option Addr) (pn pc : Nat) (go : Option Addr) (gn gc : Nat) (G : Int), e = .returned (.tuple #[.agg #[.string tn, .slice po pn pc], .agg #[.slice go gn gc, .int .i64 G]]) ∧ ParF x w'' tn po pn pc go gn gc G) ∧ Below w'.heap.size w' w'') := by
          intro w' to tc hw ht
          rw [← H.out]
          exact (rpparse_any T2 2 to tc x a0 cap0 w' HNd.out.wf rfl (by omega) T2_len ht HNd.out.cnt HM.out.1 (HM.out.2.next hw)).mono (fun e w'' h => rpp_g h)
        obtain ⟨k0, k1, k2, k3, k4⟩ := hK
        have hbl : b < W5.heap.size := lt_of_cell11 k0
        clear hb4 hb5 hN4 hcq HRd HBd x2 HXr HB3 H Hx HM
        go_wp2_with fail
        rw [HW5.out]
        clear HW5
        apply region_mid2 (x := x) (W0 := W5)
        case h =>
          refine wp_region_held_drew (S := (fun w' => w'.cell? ⟨b, o, none⟩ = some (.int .i64 K) ∧ w'.cell? ⟨b, o + 1, none⟩ = some (.int .i64 A) ∧ w'.cell? ⟨b, o + 2, none⟩ = some (.int .i64 I) ∧ w'.cell? ⟨b, o + 3, none⟩ = some (.string Y) ∧ w'.cell? ⟨b, o + 4, none⟩ = some (.slice a0 M cap0) ∧ Below W5.heap.size W5 w' ∧ W5.heap.size ≤ w'.heap.size)) (by kernel_rfl) ?_ (fun h0 => ?_)
          · exact ⟨k0, k1, k2, k3, k4, (Below.refl _ _).drew, (Below.refl W5.heap.size W5).drew.size⟩
          obtain ⟨wc, HV⟩ : ∃ V, W5.drew = V := ⟨_, rfl⟩
          rw [HV] at h0 ⊢
          clear HV
          refine wpAnyH_take (i := 0) (oi := { dst := some 68, op := Op.move (Operand.tmp 8), type := 24, pos := "law.go:105", after := #[], guard := none }) (v := ?_) rfl (by kernel_rfl) (by kernel_rfl) (by kernel_rfl) (fun _ _ _ h => h) (Or.inl ⟨by rfl, ?hyT0⟩) (by assumption) ?_
          case hyT0 => (intro w hSw; (try dsimp only at hSw); go_simp; try with_reducible rfl)
          (try simp only [Act.put, List.setIfInBounds_toArray, List.set_cons_zero, List.set_cons_succ])
          refine wpAnyH_take (i := 1) (oi := { dst := some 69, op := Op.indexAddr 24 (Operand.tmp 68) (Operand.const (Value.int IntKind.i64 0)), type := 0, pos := "law.go:105", after := #[{ on := 0, ground := Ground.data }], guard := none }) (v := ?_) rfl (by kernel_rfl) (by kernel_rfl) (by kernel_rfl) (fun _ _ _ h => h) (Or.inl ⟨by rfl, ?hyT1⟩) (by assumption) ?_
          case hyT1 => (intro w hSw; (try dsimp only at hSw); go_simp; try with_reducible rfl)
          (try simp only [Act.put, List.setIfInBounds_toArray, List.set_cons_zero, List.set_cons_succ])
          refine wpAnyH_take (i := 2) (oi := { dst := some 70, op := Op.load 46 (Operand.tmp 69), type := 46, pos := "law.go:105", after := #[{ on := 1, ground := Ground.data }], guard := none }) (v := ?_) rfl (by kernel_rfl) (by kernel_rfl) (by kernel_rfl) (fun _ _ _ h => h) (Or.inl ⟨by rfl, ?hyT2⟩) (by assumption) ?_
          case hyT2 => (intro w hSw; (try dsimp only at hSw); go_simp; try with_reducible rfl)
          (try simp only [Act.put, List.setIfInBounds_toArray, List.set_cons_zero, List.set_cons_succ])
          iterate 4
            all_goals first
              | (have z0 := HP; clear z0; have z1 := B8; clear z1; refine wpAnyH_ready (rs := [9]) (by kernel_rfl) (by simp) ?_; refine AllReadyH.cons (o := { dst := some 11, op := Op.alloc 27, type := 0, pos := "law.go:105", after := #[], guard := none }) rfl (fun K hK => ?_) (AllReadyH.nil))
              | (have z0 := HP; clear z0; have z1 := B9; clear z1; refine wpAnyH_ready (rs := [8]) (by kernel_rfl) (by simp) ?_; refine AllReadyH.cons (o := { dst := some 10, op := Op.alloc 49, type := 0, pos := "law.go:105", after := #[], guard := none }) rfl (fun K hK => ?_) (AllReadyH.nil))
              | (have z0 := HP; clear z0; refine wpAnyH_ready (rs := [8, 9]) (by kernel_rfl) (by simp) ?_; refine AllReadyH.cons (o := { dst := some 10, op := Op.alloc 49, type := 0, pos := "law.go:105", after := #[], guard := none }) rfl (fun K hK => ?_) (AllReadyH.cons (o := { dst := some 11, op := Op.alloc 27, type := 0, pos := "law.go:105", after := #[], guard := none }) rfl (fun K hK => ?_) (AllReadyH.nil)))
              | (have z0 := HT; clear z0; have z1 := B8; clear z1; have z2 := B9; clear z2; refine wpAnyH_ready (rs := [4]) (by kernel_rfl) (by simp) ?_; refine AllReadyH.cons (o := { dst := some 72, op := Op.call { callee := Callee.value (Operand.func 13), args := #[Operand.tmp 70, Operand.tmp 71], argTypes := #[46, 32] }, type := 50, pos := "law.go:105", after := #[{ on := 2, ground := Ground.data }, { on := 3, ground := Ground.data }, { on := 3, ground := Ground.chain }], guard := none }) rfl (fun K hK => ?_) (AllReadyH.nil))
              | (have z0 := HT; clear z0; have z1 := B8; clear z1; refine wpAnyH_ready (rs := [4, 9]) (by kernel_rfl) (by simp) ?_; refine AllReadyH.cons (o := { dst := some 72, op := Op.call { callee := Callee.value (Operand.func 13), args := #[Operand.tmp 70, Operand.tmp 71], argTypes := #[46, 32] }, type := 50, pos := "law.go:105", after := #[{ on := 2, ground := Ground.data }, { on := 3, ground := Ground.data }, { on := 3, ground := Ground.chain }], guard := none }) rfl (fun K hK => ?_) (AllReadyH.cons (o := { dst := some 11, op := Op.alloc 27, type := 0, pos := "law.go:105", after := #[], guard := none }) rfl (fun K hK => ?_) (AllReadyH.nil)))
              | (have z0 := HT; clear z0; have z1 := B9; clear z1; refine wpAnyH_ready (rs := [4, 8]) (by kernel_rfl) (by simp) ?_; refine AllReadyH.cons (o := { dst := some 72, op := Op.call { callee := Callee.value (Operand.func 13), args := #[Operand.tmp 70, Operand.tmp 71], argTypes := #[46, 32] }, type := 50, pos := "law.go:105", after := #[{ on := 2, ground := Ground.data }, { on := 3, ground := Ground.data }, { on := 3, ground := Ground.chain }], guard := none }) rfl (fun K hK => ?_) (AllReadyH.cons (o := { dst := some 10, op := Op.alloc 49, type := 0, pos := "law.go:105", after := #[], guard := none }) rfl (fun K hK => ?_) (AllReadyH.nil)))
              | (have z0 := HT; clear z0; refine wpAnyH_ready (rs := [4, 8, 9]) (by kernel_rfl) (by simp) ?_; refine AllReadyH.cons (o := { dst := some 72, op := Op.call { callee := Callee.value (Operand.func 13), args := #[Operand.tmp 70, Operand.tmp 71], argTypes := #[46, 32] }, type := 50, pos := "law.go:105", after := #[{ on := 2, ground := Ground.data }, { on := 3, ground := Ground.data }, { on := 3, ground := Ground.chain }], guard := none }) rfl (fun K hK => ?_) (AllReadyH.cons (o := { dst := some 10, op := Op.alloc 49, type := 0, pos := "law.go:105", after := #[], guard := none }) rfl (fun K hK => ?_) (AllReadyH.cons (o := { dst := some 11, op := Op.alloc 27, type := 0, pos := "law.go:105", after := #[], guard := none }) rfl (fun K hK => ?_) (AllReadyH.nil))))
              | (have z0 := B8; clear z0; have z1 := B9; clear z1; refine wpAnyH_ready (rs := [3]) (by kernel_rfl) (by simp) ?_; refine AllReadyH.cons (o := { dst := some 71, op := Op.call { callee := Callee.value (Operand.func 10), args := #[], argTypes := #[] }, type := 32, pos := "law.go:105", after := #[], guard := none }) rfl (fun K hK => ?_) (AllReadyH.nil))
              | (have z0 := B8; clear z0; refine wpAnyH_ready (rs := [3, 9]) (by kernel_rfl) (by simp) ?_; refine AllReadyH.cons (o := { dst := some 71, op := Op.call { callee := Callee.value (Operand.func 10), args := #[], argTypes := #[] }, type := 32, pos := "law.go:105", after := #[], guard := none }) rfl (fun K hK => ?_) (AllReadyH.cons (o := { dst := some 11, op := Op.alloc 27, type := 0, pos := "law.go:105", after := #[], guard := none }) rfl (fun K hK => ?_) (AllReadyH.nil)))
              | (have z0 := B9; clear z0; refine wpAnyH_ready (rs := [3, 8]) (by kernel_rfl) (by simp) ?_; refine AllReadyH.cons (o := { dst := some 71, op := Op.call { callee := Callee.value (Operand.func 10), args := #[], argTypes := #[] }, type := 32, pos := "law.go:105", after := #[], guard := none }) rfl (fun K hK => ?_) (AllReadyH.cons (o := { dst := some 10, op := Op.alloc 49, type := 0, pos := "law.go:105", after := #[], guard := none }) rfl (fun K hK => ?_) (AllReadyH.nil)))
              | (refine wpAnyH_ready (rs := [3, 8, 9]) (by kernel_rfl) (by simp) ?_; refine AllReadyH.cons (o := { dst := some 71, op := Op.call { callee := Callee.value (Operand.func 10), args := #[], argTypes := #[] }, type := 32, pos := "law.go:105", after := #[], guard := none }) rfl (fun K hK => ?_) (AllReadyH.cons (o := { dst := some 10, op := Op.alloc 49, type := 0, pos := "law.go:105", after := #[], guard := none }) rfl (fun K hK => ?_) (AllReadyH.cons (o := { dst := some 11, op := Op.alloc 27, type := 0, pos := "law.go:105", after := #[], guard := none }) rfl (fun K hK => ?_) (AllReadyH.nil))))
            all_goals go_simp
            all_goals first
              | refine (two_any _).mono ?_
                rintro e wc ⟨⟨to, tc, rfl, htp⟩, hb⟩
                have HT : Hid (IsTps wc to T2) := htp
                clear htp
                try replace B8 : Hid (Bx wc P8 #[.string ⟨#[]⟩, .slice none 0 0]) := B8.out.next hb
                try replace B9 : Hid (Bx wc P9 #[.slice none 0 0, .int .i64 0]) := B9.out.next hb
                refine hK.out _ _ ?_ (fun h0 => ?_)
                · obtain ⟨q0, q1, q2, q3, q4, q5, q6⟩ := h0; exact ⟨keep_cell hb q0, keep_cell hb q1, keep_cell hb q2, keep_cell hb q3, keep_cell hb q4, below_next q5 hb q6, le_next q6 hb⟩
                clear hK K hb
                (try simp only [Act.put, List.setIfInBounds_toArray, List.set_cons_zero, List.set_cons_succ])
              | refine (HPr.out _ to tc h0.2.2.2.2.2.1 HT.out).mono ?_
                rintro e wc ⟨⟨tn, po, pn, pc, go, gn, gc, G, rfl, hpp⟩, hb⟩
                have HP : Hid (ParF x wc tn po pn pc go gn gc G) := hpp
                clear hpp
                try replace HT : Hid (IsTps wc to T2) := HT.out.next hb
                try replace B8 : Hid (Bx wc P8 #[.string ⟨#[]⟩, .slice none 0 0]) := B8.out.next hb
                try replace B9 : Hid (Bx wc P9 #[.slice none 0 0, .int .i64 0]) := B9.out.next hb
                refine hK.out _ _ ?_ (fun h0 => ?_)
                · obtain ⟨q0, q1, q2, q3, q4, q5, q6⟩ := h0; exact ⟨keep_cell hb q0, keep_cell hb q1, keep_cell hb q2, keep_cell hb q3, keep_cell hb q4, below_next q5 hb q6, le_next q6 hb⟩
                clear hK K hb
                (try simp only [Act.put, List.setIfInBounds_toArray, List.set_cons_zero, List.set_cons_succ])
                refine wpAnyH_take (i := 5) (oi := { dst := some 67, op := Op.move (Operand.tmp 72), type := 50, pos := "law.go:105", after := #[{ on := 4, ground := Ground.data }], guard := none }) (v := ?_) rfl (by kernel_rfl) (by kernel_rfl) (by kernel_rfl) (fun _ _ _ h => h) (Or.inl ⟨by rfl, ?hyT5⟩) (by assumption) ?_
                case hyT5 => (intro w hSw; (try dsimp only at hSw); go_simp; try with_reducible rfl)
                (try simp only [Act.put, List.setIfInBounds_toArray, List.set_cons_zero, List.set_cons_succ])
                refine wpAnyH_take (i := 6) (oi := { dst := some 73, op := Op.extract (Operand.tmp 67) 0, type := 49, pos := "law.go:105", after := #[{ on := 5, ground := Ground.data }], guard := none }) (v := ?_) rfl (by kernel_rfl) (by kernel_rfl) (by kernel_rfl) (fun _ _ _ h => h) (Or.inl ⟨by rfl, ?hyT6⟩) (by assumption) ?_
                case hyT6 => (intro w hSw; (try dsimp only at hSw); go_simp; try with_reducible rfl)
                (try simp only [Act.put, List.setIfInBounds_toArray, List.set_cons_zero, List.set_cons_succ])
                refine wpAnyH_take (i := 7) (oi := { dst := some 74, op := Op.extract (Operand.tmp 67) 1, type := 27, pos := "law.go:105", after := #[{ on := 5, ground := Ground.data }, { on := 10, ground := Ground.gcOnly Departure.lateStores }], guard := none }) (v := ?_) rfl (by kernel_rfl) (by kernel_rfl) (by kernel_rfl) (fun _ _ _ h => h) (Or.inl ⟨by rfl, ?hyT7⟩) (by assumption) ?_
                case hyT7 => (intro w hSw; (try dsimp only at hSw); go_simp; try with_reducible rfl)
                (try simp only [Act.put, List.setIfInBounds_toArray, List.set_cons_zero, List.set_cons_succ])
              | obtain ⟨P8, HPp⟩ : ∃ P, Hid (wc.heap.size = P) := ⟨_, rfl⟩
                obtain ⟨wn, HWw, hb⟩ : ∃ w, Hid (wc.alloc (.cells #[.string ⟨#[]⟩, .slice none 0 0] 49) = w) ∧ Below wc.heap.size wc w := ⟨_, rfl, alloc_below _ _⟩
                rw [HWw.out, HPp.out]
                have B8 : Hid (Bx wn P8 #[.string ⟨#[]⟩, .slice none 0 0]) := Bx.made' HWw.out HPp.out
                have hp8 : W5.heap.size ≤ P8 := by rw [← HPp.out]; exact h0.2.2.2.2.2.2
                clear HWw HPp
                rename World => wc
                try replace HT : Hid (IsTps wc to T2) := HT.out.next hb
                try replace HP : Hid (ParF x wc tn po pn pc go gn gc G) := HP.out.next hb
                try replace B9 : Hid (Bx wc P9 #[.slice none 0 0, .int .i64 0]) := B9.out.next hb
                refine hK.out _ _ ?_ (fun h0 => ?_)
                · obtain ⟨q0, q1, q2, q3, q4, q5, q6⟩ := h0; exact ⟨keep_cell hb q0, keep_cell hb q1, keep_cell hb q2, keep_cell hb q3, keep_cell hb q4, below_next q5 hb q6, le_next q6 hb⟩
                clear hK K hb
                (try simp only [Act.put, List.setIfInBounds_toArray, List.set_cons_zero, List.set_cons_succ])
              | obtain ⟨P9, HPp⟩ : ∃ P, Hid (wc.heap.size = P) := ⟨_, rfl⟩
                obtain ⟨wn, HWw, hb⟩ : ∃ w, Hid (wc.alloc (.cells #[.slice none 0 0, .int .i64 0] 27) = w) ∧ Below wc.heap.size wc w := ⟨_, rfl, alloc_below _ _⟩
                rw [HWw.out, HPp.out]
                have B9 : Hid (Bx wn P9 #[.slice none 0 0, .int .i64 0]) := Bx.made' HWw.out HPp.out
                have hp9 : W5.heap.size ≤ P9 := by rw [← HPp.out]; exact h0.2.2.2.2.2.2
                clear HWw HPp
                rename World => wc
                try replace HT : Hid (IsTps wc to T2) := HT.out.next hb
                try replace HP : Hid (ParF x wc tn po pn pc go gn gc G) := HP.out.next hb
                try replace B8 : Hid (Bx wc P8 #[.string ⟨#[]⟩, .slice none 0 0]) := B8.out.next hb
                refine hK.out _ _ ?_ (fun h0 => ?_)
                · obtain ⟨q0, q1, q2, q3, q4, q5, q6⟩ := h0; exact ⟨keep_cell hb q0, keep_cell hb q1, keep_cell hb q2, keep_cell hb q3, keep_cell hb q4, below_next q5 hb q6, le_next q6 hb⟩
                clear hK K hb
                (try simp only [Act.put, List.setIfInBounds_toArray, List.set_cons_zero, List.set_cons_succ])
          all_goals
            have hbo : b < W5.heap.size := hbl
            have hne := bx_ne B8.out B9.out
            have s0 : wc.cell? ⟨P8, 0, none⟩ = some (.string ⟨#[]⟩) := B8.out.cell 0
            have s1 : wc.cell? ⟨P8, 1, none⟩ = some (.slice none 0 0) := B8.out.cell 1
            have sf := B8.out.froz
            refine wpAnyH_ready (rs := [10]) (by kernel_rfl) (by simp) ?_
            refine AllReadyH.cons (o := { dst := none, op := Op.store 49 (Operand.tmp 10) (Operand.tmp 73), type := 0, pos := "law.go:105", after := #[{ on := 8, ground := Ground.data }, { on := 6, ground := Ground.data }, { on := 4, ground := Ground.chain }, { on := 0, ground := Ground.phase }, { on := 1, ground := Ground.phase }, { on := 2, ground := Ground.phase }, { on := 3, ground := Ground.phase }, { on := 4, ground := Ground.phase }, { on := 5, ground := Ground.phase }, { on := 6, ground := Ground.phase }, { on := 7, ground := Ground.textOnly Departure.lateStores }, { on := 8, ground := Ground.phase }, { on := 9, ground := Ground.phase }], guard := none }) rfl (fun K hK => ?_) AllReadyH.nil
            go_simp
            obtain ⟨wd, HWw⟩ : ∃ w, Hid ((wc.setCell ⟨P8, 0, none⟩ (.string tn)).setCell ⟨P8, 1, none⟩ (.slice po pn pc) = w) := ⟨_, rfl⟩
            rw [HWw.out]
            clear s0 s1 sf
            refine hK.out _ _ ?_ (fun h0 => ?_)
            · obtain ⟨q0, q1, q2, q3, q4, q5, q6⟩ := h0
              have hbq := World.block_lt_of_cell? _ _ q0
              simp only at hbq
              rw [← HWw.out]
              exact ⟨far2 (by omega) q0, far2 (by omega) q1, far2 (by omega) q2, far2 (by omega) q3, far2 (by omega) q4, set_bel (set_bel q5 hp8) hp8, by simp [World.setCell]; exact q6⟩
            clear hK K
            (try simp only [Act.put, List.setIfInBounds_toArray, List.set_cons_zero, List.set_cons_succ])
            have HPd : Hid (ParF x wd tn po pn pc go gn gc G) := by rw [Hid, ← HWw.out]; exact HP.out.set8 B8.out
            have C8 : Hid (Bx wd P8 #[.string tn, .slice po pn pc]) := by rw [Hid, ← HWw.out]; exact (B8.out.set 0 _).set 1 _
            replace B9 : Hid (Bx wd P9 #[.slice none 0 0, .int .i64 0]) := by rw [Hid, ← HWw.out]; exact (B9.out.off (Ne.symm hne) _ _).off (Ne.symm hne) _ _
            clear HWw B8 HP
            rename World => wc
            have s0 : wc.cell? ⟨P9, 0, none⟩ = some (.slice none 0 0) := B9.out.cell 0
            have s1 : wc.cell? ⟨P9, 1, none⟩ = some (.int .i64 0) := B9.out.cell 1
            have sf := B9.out.froz
            refine wpAnyH_ready (rs := [11]) (by kernel_rfl) (by simp) ?_
            refine AllReadyH.cons (o := { dst := none, op := Op.store 27 (Operand.tmp 11) (Operand.tmp 74), type := 0, pos := "law.go:105", after := #[{ on := 9, ground := Ground.data }, { on := 7, ground := Ground.data }, { on := 10, ground := Ground.chain }, { on := 0, ground := Ground.phase }, { on := 1, ground := Ground.phase }, { on := 2, ground := Ground.phase }, { on := 3, ground := Ground.phase }, { on := 4, ground := Ground.phase }, { on := 5, ground := Ground.phase }, { on := 6, ground := Ground.phase }, { on := 7, ground := Ground.phase }, { on := 8, ground := Ground.phase }, { on := 9, ground := Ground.phase }, { on := 10, ground := Ground.phase }], guard := none }) rfl (fun K hK => ?_) AllReadyH.nil
            go_simp
            obtain ⟨we, HWw⟩ : ∃ w, Hid ((wc.setCell ⟨P9, 0, none⟩ (.slice go gn gc)).setCell ⟨P9, 1, none⟩ (.int .i64 G) = w) := ⟨_, rfl⟩
            rw [HWw.out]
            clear s0 s1 sf
            refine hK.out _ _ ?_ (fun h0 => ?_)
            · obtain ⟨q0, q1, q2, q3, q4, q5, q6⟩ := h0
              have hbq := World.block_lt_of_cell? _ _ q0
              simp only at hbq
              rw [← HWw.out]
              exact ⟨far2 (by omega) q0, far2 (by omega) q1, far2 (by omega) q2, far2 (by omega) q3, far2 (by omega) q4, set_bel (set_bel q5 hp9) hp9, by simp [World.setCell]; exact q6⟩
            clear hK K
            (try simp only [Act.put, List.setIfInBounds_toArray, List.set_cons_zero, List.set_cons_succ])
            refine wpAnyH_done (by kernel_rfl) (onlyN ?_) _
            refine ⟨to, tc, tn, po, pn, pc, go, gn, gc, G, P8, P9, rfl, ⟨h0.2.2.2.2.2.1, ?_, ?_, ?_⟩⟩
            · rw [← HWw.out]; exact (C8.out.off hne _ _).off hne _ _
            · rw [← HWw.out]; exact (B9.out.set 0 _).set 1 _
            · rw [← HWw.out]; exact HPd.out.set9 B9.out
        case hQ =>
          rintro to tc tn po pn pc go gn gc G P8 P9 w6 ⟨hb6, hx8, hx9, hpf⟩
          have HB6 : Hid (Below w.heap.size w w6) := next_trans HB5.out hb6
          have HX6 : Hid (Bx w6 FB #[.int .i64 id, .string ft, .slice fo N fc]) := HX5.out.next hb6
          have HP6 : Hid (Bx w6 P8 #[.string tn, .slice po pn pc]) := hx8
          have g1 : w6.cell? ⟨P9, 1, none⟩ = some (.int .i64 G) := hx9.cell 1
          have hpe := hpf.err
          clear hb6 hx8 hx9 hpf HX5 HB5 HPr k0 k1 k2 k3 k4
          rcases hpe with hG | ⟨rfl, tl, hpp, rfl, hts⟩
          · have hgb : (G == 0) = false := by simp; exact hG
            go_wp2
            go_ret
            exact ⟨rfl, HB6.out⟩
          have HTs : Hid (IsTss w6 po tl) := hts
          have hl2 : tl.length ≤ 2 := parP_two hpp
          obtain ⟨pn, Hpn⟩ : ∃ pn, Hid (tl.length = pn) := ⟨_, rfl⟩
          have HTo : Hid (Calls Tryz.prog 27 #[.agg #[.string tn, .slice po pn pc]] w6 fun e w' => (∃ ao' cap', e = .returned (.agg #[.string tn, .slice ao' pn cap']) ∧ IsTss w' ao' tl) ∧ Below w6.heap.size w6 w') := by
            have := pto11_any ⟨tn, tl⟩ po pc w6 (by show tl.length ≤ _; omega) HTs.out
            unfold ptV at this
            simp only at this
            rw [Hpn.out] at this
            exact this
          rw [Hpn.out] at HP6 hl2
          have p0 : w6.cell? ⟨P8, 0, none⟩ = some (.string tn) := HP6.out.cell 0
          have p1 : w6.cell? ⟨P8, 1, none⟩ = some (.slice po pn pc) := HP6.out.cell 1
          clear hts hpp
          go_wp2_with fail
          refine HTo.out.mono ?_
          rintro e w7 ⟨⟨qo, qc, rfl, hq7⟩, hb7⟩
          obtain ⟨QB, HQB⟩ : ∃ QB, Hid (w7.heap.size = QB) := ⟨_, rfl⟩
          obtain ⟨W8, HW8⟩ : ∃ W8, Hid (w7.alloc (.cells #[.string tn, .slice qo pn qc] 36) = W8) := ⟨_, rfl⟩
          have hb8 : Below w6.heap.size w6 W8 := by rw [← HW8.out]; exact next_trans hb7 (alloc_below _ _)
          have HB8 : Hid (Below w.heap.size w W8) := next_trans HB6.out hb8
          have HX8 : Hid (Bx W8 FB #[.int .i64 id, .string ft, .slice fo N fc]) := HX6.out.next hb8
          have HP8 : Hid (Bx W8 P8 #[.string tn, .slice po pn pc]) := HP6.out.next hb8
          have HQ8 : Hid (Bx W8 QB #[.string tn, .slice qo pn qc]) := Bx.made' HW8.out HQB.out
          have HT8 : Hid (IsTss W8 po tl ∧ IsTss W8 qo tl) := ⟨HTs.out.next hb8, by rw [← HW8.out]; exact hq7.next (alloc_below _ _)⟩
          have hX7 := HX6.out.next hb7
          obtain ⟨x0, x1, x2⟩ : w7.cell? ⟨FB, 0, none⟩ = some (.int .i64 id) ∧ w7.cell? ⟨FB, 1, none⟩ = some (.string ft) ∧ w7.cell? ⟨FB, 2, none⟩ = some (.slice fo N fc) := ⟨hX7.cell 0, hX7.cell 1, hX7.cell 2⟩
          have hlx : FB < w7.heap.size := hX7.lt
          clear hX7 hb7 hb8 hq7 HTo p0 p1 g1 HB6 HX6 HP6 HTs
          obtain ⟨W9, HW9⟩ : ∃ W9, Hid (W8.alloc (.cells #[.int .i64 id, .string ft, .slice fo N fc] 66) = W9) := ⟨_, rfl⟩
          have hFS : W8.heap.size = QB + 1 := by rw [← HW8.out, World.size_alloc, HQB.out]
          have HY9 : Hid (Bx W9 (QB + 1) #[.int .i64 id, .string ft, .slice fo N fc]) := Bx.made' HW9.out hFS
          have hb9 : Below W8.heap.size W8 W9 := by rw [← HW9.out]; exact alloc_below _ _
          have HB9 : Hid (Below W8.heap.size W8 W9) := hb9
          have HOf : Hid (Calls Tryz.prog 28 #[.slice (some ⟨QB + 1, 0, none⟩) 1 1] W9 fun e w' => (∃ ro rc, e = .returned (.slice ro 1 rc) ∧ IsFqs w' ro [⟨id, ft, fo, N, fc⟩] ∧ (ro = none → 1 = 0 ∧ rc = 0)) ∧ Below W9.heap.size W9 w') := by
            refine rfacts_any [⟨id, ft, fo, N, fc⟩] 1 (some ⟨QB + 1, 0, none⟩) 1 W9 rfl (by omega) (fun j s hj => ?_)
            match j, hj with
            | 0, hj =>
              cases hj
              exact ⟨QB + 1, 0, rfl, HY9.out.cell 0, HY9.out.cell 1, HY9.out.cell 2⟩
          clear hb9 HY9 hFS
          go_wp2_with fail
          rw [HW8.out, HQB.out, HW9.out]
          clear HW8 HQB HW9 hlx x0 x1 x2
          refine HOf.out.mono ?_
          rintro e wa ⟨⟨ro, rc, rfl, hfq, -⟩, hba⟩
          obtain ⟨rb, rq, rfl, r0, r1, r2⟩ := hfq 0 _ rfl
          rw [Nat.zero_mul, Nat.add_zero] at r0 r1 r2
          simp only at r0 r1 r2
          have hb8a : Below W8.heap.size W8 wa := next_trans HB9.out hba
          obtain ⟨GL, HGL⟩ : ∃ GL, Hid ((matP ⟨tn, tl⟩ ⟨id, ft, L⟩ E).getD [] = GL) := ⟨_, rfl⟩
          obtain ⟨gr, Hgr⟩ : ∃ gr, Hid ((matP ⟨tn, tl⟩ ⟨id, ft, L⟩ E).isSome = gr) := ⟨_, rfl⟩
          obtain ⟨gl, Hgl⟩ : ∃ gl, Hid (GL.length = gl) := ⟨_, rfl⟩
          have hgl : gl ≤ 1000 := by
            have := mat_len (P := ⟨tn, tl⟩) (f := ⟨id, ft, L⟩) (E := E)
            rw [HGL.out, Hgl.out, HEl.out] at this
            simp only at this
            rw [Hpn.out] at this
            omega
          have HTa : Hid (IsTss wa po tl ∧ IsTss wa qo tl) := ⟨HT8.out.1.next hb8a, HT8.out.2.next hb8a⟩
          have HBa : Hid (Below w.heap.size w wa) := next_trans HB8.out hb8a
          have HXa : Hid (Bx wa FB #[.int .i64 id, .string ft, .slice fo N fc]) := HX8.out.next hb8a
          have HPa : Hid (Bx wa P8 #[.string tn, .slice po pn pc]) := HP8.out.next hb8a
          have HQa : Hid (Bx wa QB #[.string tn, .slice qo pn qc]) := HQ8.out.next hb8a
          have HMa : Hid (∀ W, Below wa.heap.size wa W → Calls Tryz.prog 29 #[.agg #[.string tn, .slice qo pn qc], .agg #[.int .i64 id, .string ft, .slice fo N fc], .slice eo EN ec] W fun e w' => (∃ mo mc, e = .returned (.tuple #[.slice mo gl mc, .bool gr]) ∧ IsSls w' mo GL) ∧ Below W.heap.size W w') := by
            intro W hB
            have := match_any ⟨tn, tl⟩ qo qc ⟨id, ft, L⟩ fo fc E eo ec W (by show tl.length ≤ _; rw [Hpn.out]; omega) (HTa.out.2.next hB) (by show L.length ≤ _; rw [HL.out]; omega) (HV.out.next (next_trans HBa.out hB)) (by rw [HEl.out]; omega) (HEs.out.next (next_trans HBa.out hB)) (by rw [HEl.out]; exact HEn.out)
            unfold ptV fcV at this
            simp only at this
            rw [HL.out, HEl.out, Hpn.out] at this
            refine this.mono ?_
            rintro e w' ⟨h1, h2⟩
            have h3 := h1.u
            rw [HGL.out, Hgr.out] at h3
            unfold MtU at h3
            rw [Hgl.out] at h3
            exact ⟨h3, h2⟩
          have HMr : Hid (∀ W to' tc', Below wa.heap.size wa W → IsSls W to' E → (to' = none → EN = 0 ∧ tc' = 0) → Calls Tryz.prog 30 #[.agg #[.string tn, .slice po pn pc], .agg #[.int .i64 id, .string ft, .slice fo N fc], .slice to' EN tc'] W fun e w' => (∃ mo mc, e = .returned (.tuple #[.slice mo gl mc, .bool gr]) ∧ IsSls w' mo GL) ∧ Below W.heap.size W w') := by
            intro W to' tc' hB hs hn
            have := rmatch_any ⟨tn, tl⟩ po pc ⟨id, ft, L⟩ fo fc E to' tc' W (by show tl.length ≤ _; rw [Hpn.out]; omega) (HTa.out.1.next hB) (by show L.length ≤ _; rw [HL.out]; omega) (HV.out.next (next_trans HBa.out hB)) (by rw [HEl.out]; omega) hs (by rw [HEl.out]; exact hn)
            unfold ptV fcV at this
            simp only at this
            rw [HL.out, HEl.out, Hpn.out] at this
            refine this.mono ?_
            rintro e w' ⟨h1, h2⟩
            have h3 := h1.u
            rw [HGL.out, Hgr.out] at h3
            unfold MtU at h3
            rw [Hgl.out] at h3
            exact ⟨h3, h2⟩
          have HBd2 : Hid (∀ W, Below wa.heap.size wa W → Calls Tryz.prog 31 #[.slice eo EN ec] W fun e w' => (∃ ro rc, e = .returned (.slice ro EN rc) ∧ IsSls w' ro E ∧ (ro = none → EN = 0 ∧ rc = 0)) ∧ Below W.heap.size W w') := fun W hB =>
            rbinds_any E EN eo ec W HEl.out (by omega) (HEs.out.next (next_trans HBa.out hB))
          obtain ⟨al, Hal⟩ : ∃ al, Hid (alonB ⟨tn, tl⟩ ⟨id, ft, L⟩ = al) := ⟨_, rfl⟩
          have HAl : Hid (∀ W, Below wa.heap.size wa W → Calls Tryz.prog 33 #[.agg #[.string tn, .slice qo pn qc], .agg #[.int .i64 id, .string ft, .slice fo N fc]] W fun e w' => e = .returned (.bool al) ∧ Below W.heap.size W w') := by
            intro W hB
            have := alone_any ⟨tn, tl⟩ qo qc ⟨id, ft, L⟩ fo fc W (by show tl.length ≤ _; rw [Hpn.out]; omega) (HTa.out.2.next hB) (by show L.length ≤ _; rw [HL.out]; omega) (HV.out.next (next_trans HBa.out hB))
            unfold ptV fcV at this
            simp only at this
            rw [HL.out, Hpn.out, Hal.out] at this
            exact this
          have HAr : Hid (∀ W, Below wa.heap.size wa W → Calls Tryz.prog 34 #[.agg #[.string tn, .slice po pn pc], .agg #[.int .i64 id, .string ft, .slice fo N fc]] W fun e w' => e = .returned (.bool al) ∧ Below W.heap.size W w') := by
            intro W hB
            have := ralone_any ⟨tn, tl⟩ po pc ⟨id, ft, L⟩ fo fc W (by show tl.length ≤ _; rw [Hpn.out]; omega) (HTa.out.1.next hB) (by show L.length ≤ _; rw [HL.out]; omega) (HV.out.next (next_trans HBa.out hB))
            unfold ptV fcV at this
            simp only at this
            rw [HL.out, Hpn.out, Hal.out] at this
            exact this
          have HSm : Hid (∀ W mo mc to' tc', IsSls W mo GL → IsSls W to' GL → Calls Tryz.prog 32 #[.slice mo gl mc, .slice to' gl tc'] W fun e w' => e = .returned (.bool true) ∧ Below W.heap.size W w') := fun W mo mc to' tc' h1 h2 =>
            bsame8_any GL gl mo to' mc tc' W Hgl.out hgl h1 h2
          obtain ⟨x0, x1, x2⟩ : wa.cell? ⟨FB, 0, none⟩ = some (.int .i64 id) ∧ wa.cell? ⟨FB, 1, none⟩ = some (.string ft) ∧ wa.cell? ⟨FB, 2, none⟩ = some (.slice fo N fc) := ⟨HXa.out.cell 0, HXa.out.cell 1, HXa.out.cell 2⟩
          obtain ⟨q0, q1⟩ : wa.cell? ⟨QB, 0, none⟩ = some (.string tn) ∧ wa.cell? ⟨QB, 1, none⟩ = some (.slice qo pn qc) := ⟨HQa.out.cell 0, HQa.out.cell 1⟩
          clear hba hfq hb8a HT8 HB8 HX8 HP8 HQ8 HB9 HOf HTa Hal Hgr HGL Hgl hgl HV HEs
          go_wp2_with fail
          refine (HMa.out wa (Below.refl _ _)).mono ?_
          rintro e wb ⟨⟨mo, mc, rfl, hmo⟩, hbb⟩
          have HGb : Hid (IsSls wb mo GL) := hmo
          have HBb : Hid (Below wa.heap.size wa wb) := hbb
          have R0 := keep_cell hbb r0
          have R1 := keep_cell hbb r1
          have R2 := keep_cell hbb r2
          have X0 := keep_cell hbb x0
          have X1 := keep_cell hbb x1
          have X2 := keep_cell hbb x2
          have Q0 := keep_cell hbb q0
          have Q1 := keep_cell hbb q1
          obtain ⟨p0, p1⟩ : wb.cell? ⟨P8, 0, none⟩ = some (.string tn) ∧ wb.cell? ⟨P8, 1, none⟩ = some (.slice po pn pc) := ⟨(HPa.out.next hbb).cell 0, (HPa.out.next hbb).cell 1⟩
          clear r0 r1 r2 x0 x1 x2 q0 q1 hbb hmo HMa
          go_wp2_with fail
          refine wp_region_held_drew (S := (fun w' => w'.cell? ⟨P8, 0, none⟩ = some (.string tn) ∧ w'.cell? ⟨P8, 1, none⟩ = some (.slice po pn pc) ∧ w'.cell? ⟨rb, rq, none⟩ = some (.int .i64 id) ∧ w'.cell? ⟨rb, rq + 1, none⟩ = some (.string ft) ∧ w'.cell? ⟨rb, rq + 2, none⟩ = some (.slice fo N fc) ∧ w'.cell? ⟨FB, 0, none⟩ = some (.int .i64 id) ∧ w'.cell? ⟨FB, 1, none⟩ = some (.string ft) ∧ w'.cell? ⟨FB, 2, none⟩ = some (.slice fo N fc) ∧ w'.cell? ⟨QB, 0, none⟩ = some (.string tn) ∧ w'.cell? ⟨QB, 1, none⟩ = some (.slice qo pn qc) ∧ Below wb.heap.size wb w' ∧ wb.heap.size ≤ w'.heap.size)) (by kernel_rfl) ?_ (fun hHeldA => ?_)
          · exact ⟨p0, p1, R0, R1, R2, X0, X1, X2, Q0, Q1, (Below.refl _ _).drew, (Below.refl wb.heap.size wb).drew.size⟩
          refine wpAnyH_take (i := 0) (oi := { dst := some 91, op := Op.load 49 (Operand.tmp 10), type := 49, pos := "law.go:112", after := #[], guard := none }) (v := ?_) rfl (by kernel_rfl) (by kernel_rfl) (by kernel_rfl) (fun _ _ _ h => h) (Or.inl ⟨by rfl, ?hyA0⟩) (by assumption) ?_
          case hyA0 => (intro w hSw; (try dsimp only at hSw); go_simp; try with_reducible rfl)
          (try simp only [Act.put, List.setIfInBounds_toArray, List.set_cons_zero, List.set_cons_succ])
          refine wpAnyH_take (i := 1) (oi := { dst := some 92, op := Op.move (Operand.tmp 13), type := 73, pos := "law.go:112", after := #[], guard := none }) (v := ?_) rfl (by kernel_rfl) (by kernel_rfl) (by kernel_rfl) (fun _ _ _ h => h) (Or.inl ⟨by rfl, ?hyA1⟩) (by assumption) ?_
          case hyA1 => (intro w hSw; (try dsimp only at hSw); go_simp; try with_reducible rfl)
          (try simp only [Act.put, List.setIfInBounds_toArray, List.set_cons_zero, List.set_cons_succ])
          refine wpAnyH_take (i := 2) (oi := { dst := some 93, op := Op.indexAddr 73 (Operand.tmp 92) (Operand.const (Value.int IntKind.i64 0)), type := 0, pos := "law.go:112", after := #[{ on := 1, ground := Ground.data }], guard := none }) (v := ?_) rfl (by kernel_rfl) (by kernel_rfl) (by kernel_rfl) (fun _ _ _ h => h) (Or.inl ⟨by rfl, ?hyA2⟩) (by assumption) ?_
          case hyA2 => (intro w hSw; (try dsimp only at hSw); go_simp; try with_reducible rfl)
          (try simp only [Act.put, List.setIfInBounds_toArray, List.set_cons_zero, List.set_cons_succ])
          refine wpAnyH_take (i := 3) (oi := { dst := some 94, op := Op.load 81 (Operand.tmp 93), type := 81, pos := "law.go:112", after := #[{ on := 2, ground := Ground.data }], guard := none }) (v := ?_) rfl (by kernel_rfl) (by kernel_rfl) (by kernel_rfl) (fun _ _ _ h => h) (Or.inl ⟨by rfl, ?hyA3⟩) (by assumption) ?_
          case hyA3 => (intro w hSw; (try dsimp only at hSw); go_simp; try with_reducible rfl)
          (try simp only [Act.put, List.setIfInBounds_toArray, List.set_cons_zero, List.set_cons_succ])
          refine wpAnyH_take (i := 4) (oi := { dst := some 95, op := Op.move (Operand.tmp 2), type := 67, pos := "law.go:112", after := #[], guard := none }) (v := ?_) rfl (by kernel_rfl) (by kernel_rfl) (by kernel_rfl) (fun _ _ _ h => h) (Or.inl ⟨by rfl, ?hyA4⟩) (by assumption) ?_
          case hyA4 => (intro w hSw; (try dsimp only at hSw); go_simp; try with_reducible rfl)
          (try simp only [Act.put, List.setIfInBounds_toArray, List.set_cons_zero, List.set_cons_succ])
          refine wpAnyH_ready (rs := [5]) (by kernel_rfl) (by simp) ?_
          refine AllReadyH.cons (o := { dst := some 96, op := Op.call { callee := Callee.value (Operand.func 31), args := #[Operand.tmp 95], argTypes := #[67] }, type := 78, pos := "law.go:112", after := #[{ on := 4, ground := Ground.data }], guard := none }) rfl (fun K hK => ?_) AllReadyH.nil
          go_simp
          refine (HBd2.out _ (next_trans HBb.out (hHeldA.2.2.2.2.2.2.2.2.2.2.1))).mono ?_
          rintro e wc ⟨⟨bo, bc, rfl, hbo, hbn⟩, hb⟩
          have HBo : Hid (IsSls wc bo E ∧ (bo = none → EN = 0 ∧ bc = 0)) := ⟨hbo, hbn⟩
          clear hbo hbn
          refine hK.out _ _ ?_ (fun hHeldAx => ?_)
          · obtain ⟨q0, q1, q2, q3, q4, q5, q6, q7, q8, q9, q10, q11⟩ := hHeldA
            exact ⟨keep_cell hb q0, keep_cell hb q1, keep_cell hb q2, keep_cell hb q3, keep_cell hb q4, keep_cell hb q5, keep_cell hb q6, keep_cell hb q7, keep_cell hb q8, keep_cell hb q9, below_next q10 hb q11, le_next q11 hb⟩
          clear hK K hb hHeldA
          (try simp only [Act.put, List.setIfInBounds_toArray, List.set_cons_zero, List.set_cons_succ])
          refine wpAnyH_ready (rs := [6]) (by kernel_rfl) (by simp) ?_
          refine AllReadyH.cons (o := { dst := some 97, op := Op.call { callee := Callee.value (Operand.func 30), args := #[Operand.tmp 91, Operand.tmp 94, Operand.tmp 96], argTypes := #[49, 81, 78] }, type := 79, pos := "law.go:112", after := #[{ on := 0, ground := Ground.data }, { on := 3, ground := Ground.data }, { on := 5, ground := Ground.data }, { on := 5, ground := Ground.chain }], guard := none }) rfl (fun K hK => ?_) AllReadyH.nil
          go_simp
          refine (HMr.out _ _ _ (next_trans HBb.out (hHeldAx.2.2.2.2.2.2.2.2.2.2.1)) HBo.out.1 HBo.out.2).mono ?_
          rintro e wd ⟨⟨no, nc, rfl, hno⟩, hb⟩
          have HNo : Hid (IsSls wd no GL) := hno
          clear hno
          refine hK.out _ _ ?_ (fun hHeldAxx => ?_)
          · obtain ⟨q0, q1, q2, q3, q4, q5, q6, q7, q8, q9, q10, q11⟩ := hHeldAx
            exact ⟨keep_cell hb q0, keep_cell hb q1, keep_cell hb q2, keep_cell hb q3, keep_cell hb q4, keep_cell hb q5, keep_cell hb q6, keep_cell hb q7, keep_cell hb q8, keep_cell hb q9, below_next q10 hb q11, le_next q11 hb⟩
          clear hK K hb hHeldAx
          (try simp only [Act.put, List.setIfInBounds_toArray, List.set_cons_zero, List.set_cons_succ])
          refine wpAnyH_take (i := 7) (oi := { dst := some 90, op := Op.move (Operand.tmp 97), type := 79, pos := "law.go:112", after := #[{ on := 6, ground := Ground.data }], guard := none }) (v := ?_) rfl (by kernel_rfl) (by kernel_rfl) (by kernel_rfl) (fun _ _ _ h => h) (Or.inl ⟨by rfl, ?hyA7⟩) (by assumption) ?_
          case hyA7 => (intro w hSw; (try dsimp only at hSw); go_simp; try with_reducible rfl)
          (try simp only [Act.put, List.setIfInBounds_toArray, List.set_cons_zero, List.set_cons_succ])
          refine wpAnyH_take (i := 8) (oi := { dst := some 98, op := Op.extract (Operand.tmp 90) 0, type := 78, pos := "law.go:112", after := #[{ on := 7, ground := Ground.data }], guard := none }) (v := ?_) rfl (by kernel_rfl) (by kernel_rfl) (by kernel_rfl) (fun _ _ _ h => h) (Or.inl ⟨by rfl, ?hyA8⟩) (by assumption) ?_
          case hyA8 => (intro w hSw; (try dsimp only at hSw); go_simp; try with_reducible rfl)
          (try simp only [Act.put, List.setIfInBounds_toArray, List.set_cons_zero, List.set_cons_succ])
          refine wpAnyH_take (i := 9) (oi := { dst := some 99, op := Op.extract (Operand.tmp 90) 1, type := 4, pos := "law.go:112", after := #[{ on := 7, ground := Ground.data }, { on := 10, ground := Ground.gcOnly Departure.lateStores }], guard := none }) (v := ?_) rfl (by kernel_rfl) (by kernel_rfl) (by kernel_rfl) (fun _ _ _ h => h) (Or.inl ⟨by rfl, ?hyA9⟩) (by assumption) ?_
          case hyA9 => (intro w hSw; (try dsimp only at hSw); go_simp; try with_reducible rfl)
          (try simp only [Act.put, List.setIfInBounds_toArray, List.set_cons_zero, List.set_cons_succ])
          refine wpAnyH_take (i := 10) (oi := { dst := some 16, op := Op.assign (Operand.tmp 98), type := 78, pos := "law.go:112", after := #[{ on := 8, ground := Ground.data }, { on := 6, ground := Ground.chain }, { on := 0, ground := Ground.phase }, { on := 1, ground := Ground.phase }, { on := 2, ground := Ground.phase }, { on := 3, ground := Ground.phase }, { on := 4, ground := Ground.phase }, { on := 5, ground := Ground.phase }, { on := 6, ground := Ground.phase }, { on := 7, ground := Ground.phase }, { on := 8, ground := Ground.phase }, { on := 9, ground := Ground.textOnly Departure.lateStores }], guard := none }) (v := ?_) rfl (by kernel_rfl) (by kernel_rfl) (by kernel_rfl) (fun _ _ _ h => h) (Or.inl ⟨by rfl, ?hyA10⟩) (by assumption) ?_
          case hyA10 => (intro w hSw; (try dsimp only at hSw); go_simp; try with_reducible rfl)
          (try simp only [Act.put, List.setIfInBounds_toArray, List.set_cons_zero, List.set_cons_succ])
          refine wpAnyH_take (i := 11) (oi := { dst := some 17, op := Op.assign (Operand.tmp 99), type := 4, pos := "law.go:112", after := #[{ on := 9, ground := Ground.data }, { on := 10, ground := Ground.chain }, { on := 0, ground := Ground.phase }, { on := 1, ground := Ground.phase }, { on := 2, ground := Ground.phase }, { on := 3, ground := Ground.phase }, { on := 4, ground := Ground.phase }, { on := 5, ground := Ground.phase }, { on := 6, ground := Ground.phase }, { on := 7, ground := Ground.phase }, { on := 8, ground := Ground.phase }, { on := 9, ground := Ground.phase }, { on := 10, ground := Ground.phase }], guard := none }) (v := ?_) rfl (by kernel_rfl) (by kernel_rfl) (by kernel_rfl) (fun _ _ _ h => h) (Or.inl ⟨by rfl, ?hyA11⟩) (by assumption) ?_
          case hyA11 => (intro w hSw; (try dsimp only at hSw); go_simp; try with_reducible rfl)
          (try simp only [Act.put, List.setIfInBounds_toArray, List.set_cons_zero, List.set_cons_succ])
          refine wpAnyH_done (by kernel_rfl) ?_ _
          clear p0 p1 R0 R1 R2 X0 X1 X2 Q0 Q1 HBo HMr HBd2
          obtain ⟨p0, p1, R0, R1, R2, X0, X1, X2, Q0, Q1, hbd, hld⟩ := hHeldAxx
          have HBd : Hid (Below wb.heap.size wb wd) := hbd
          have HGd : Hid (IsSls wd mo GL) := HGb.out.next hbd
          go_wp2_with fail
          refine wp_region_held_drew (S := (fun w' => w'.cell? ⟨P8, 0, none⟩ = some (.string tn) ∧ w'.cell? ⟨P8, 1, none⟩ = some (.slice po pn pc) ∧ w'.cell? ⟨rb, rq, none⟩ = some (.int .i64 id) ∧ w'.cell? ⟨rb, rq + 1, none⟩ = some (.string ft) ∧ w'.cell? ⟨rb, rq + 2, none⟩ = some (.slice fo N fc) ∧ w'.cell? ⟨FB, 0, none⟩ = some (.int .i64 id) ∧ w'.cell? ⟨FB, 1, none⟩ = some (.string ft) ∧ w'.cell? ⟨FB, 2, none⟩ = some (.slice fo N fc) ∧ w'.cell? ⟨QB, 0, none⟩ = some (.string tn) ∧ w'.cell? ⟨QB, 1, none⟩ = some (.slice qo pn qc) ∧ Below wd.heap.size wd w' ∧ wd.heap.size ≤ w'.heap.size)) (by kernel_rfl) ?_ (fun hHeldB => ?_)
          · exact ⟨p0, p1, R0, R1, R2, X0, X1, X2, Q0, Q1, (Below.refl _ _).drew, (Below.refl wd.heap.size wd).drew.size⟩
          refine wpAnyH_take (i := 0) (oi := { dst := some 100, op := Op.move (Operand.tmp 15), type := 4, pos := "law.go:113", after := #[], guard := none }) (v := ?_) rfl (by kernel_rfl) (by kernel_rfl) (by kernel_rfl) (fun _ _ _ h => h) (Or.inl ⟨by rfl, ?hyB0⟩) (by assumption) ?_
          case hyB0 => (intro w hSw; (try dsimp only at hSw); go_simp; try with_reducible rfl)
          (try simp only [Act.put, List.setIfInBounds_toArray, List.set_cons_zero, List.set_cons_succ])
          refine wpAnyH_take (i := 1) (oi := { dst := some 101, op := Op.move (Operand.tmp 17), type := 4, pos := "law.go:113", after := #[], guard := none }) (v := ?_) rfl (by kernel_rfl) (by kernel_rfl) (by kernel_rfl) (fun _ _ _ h => h) (Or.inl ⟨by rfl, ?hyB1⟩) (by assumption) ?_
          case hyB1 => (intro w hSw; (try dsimp only at hSw); go_simp; try with_reducible rfl)
          (try simp only [Act.put, List.setIfInBounds_toArray, List.set_cons_zero, List.set_cons_succ])
          refine wpAnyH_take (i := 2) (oi := { dst := some 102, op := Op.binOp BinOp.eql 4 (Operand.tmp 100) (Operand.tmp 101) 4, type := 4, pos := "law.go:113", after := #[{ on := 0, ground := Ground.data }, { on := 1, ground := Ground.data }], guard := none }) (v := ?_) rfl (by kernel_rfl) (by kernel_rfl) (by kernel_rfl) (fun _ _ _ h => h) (Or.inl ⟨by rfl, ?hyB2⟩) (by assumption) ?_
          case hyB2 => (intro w hSw; (try dsimp only at hSw); go_simp; try with_reducible rfl)
          (try simp only [Act.put, List.setIfInBounds_toArray, List.set_cons_zero, List.set_cons_succ])
          refine wpAnyH_take (i := 3) (oi := { dst := some 103, op := Op.move (Operand.tmp 102), type := 4, pos := "law.go:113", after := #[{ on := 2, ground := Ground.data }], guard := none }) (v := ?_) rfl (by kernel_rfl) (by kernel_rfl) (by kernel_rfl) (fun _ _ _ h => h) (Or.inl ⟨by rfl, ?hyB3⟩) (by assumption) ?_
          case hyB3 => (intro w hSw; (try dsimp only at hSw); go_simp; try with_reducible rfl)
          (try simp only [Act.put, List.setIfInBounds_toArray, List.set_cons_zero, List.set_cons_succ])
          refine wpAnyH_take (i := 4) (oi := { dst := some 104, op := Op.move (Operand.tmp 14), type := 67, pos := "law.go:113", after := #[{ on := 3, ground := Ground.guard }], guard := some (3, true) }) (v := ?_) rfl (by kernel_rfl) (by kernel_rfl) (by kernel_rfl) (fun _ _ _ h => h) (Or.inl ⟨by rfl, ?hyB4⟩) (by assumption) ?_
          case hyB4 => (intro w hSw; (try dsimp only at hSw); go_simp; try with_reducible rfl)
          (try simp only [Act.put, List.setIfInBounds_toArray, List.set_cons_zero, List.set_cons_succ])
          refine wpAnyH_take (i := 5) (oi := { dst := some 105, op := Op.move (Operand.tmp 16), type := 78, pos := "law.go:113", after := #[{ on := 3, ground := Ground.guard }], guard := some (3, true) }) (v := ?_) rfl (by kernel_rfl) (by kernel_rfl) (by kernel_rfl) (fun _ _ _ h => h) (Or.inl ⟨by rfl, ?hyB5⟩) (by assumption) ?_
          case hyB5 => (intro w hSw; (try dsimp only at hSw); go_simp; try with_reducible rfl)
          (try simp only [Act.put, List.setIfInBounds_toArray, List.set_cons_zero, List.set_cons_succ])
          refine wpAnyH_ready (rs := [6]) (by kernel_rfl) (by simp) ?_
          refine AllReadyH.cons (o := { dst := some 106, op := Op.call { callee := Callee.value (Operand.func 32), args := #[Operand.tmp 104, Operand.tmp 105], argTypes := #[67, 78] }, type := 4, pos := "law.go:113", after := #[{ on := 4, ground := Ground.data }, { on := 5, ground := Ground.data }, { on := 3, ground := Ground.chain }, { on := 3, ground := Ground.guard }], guard := some (3, true) }) rfl (fun K hK => ?_) AllReadyH.nil
          go_simp
          refine (HSm.out _ _ _ _ _ (HGd.out.next (hHeldB.2.2.2.2.2.2.2.2.2.2.1)) (HNo.out.next (hHeldB.2.2.2.2.2.2.2.2.2.2.1))).mono ?_
          rintro e we ⟨rfl, hb⟩
          refine hK.out _ _ ?_ (fun hHeldBx => ?_)
          · obtain ⟨q0, q1, q2, q3, q4, q5, q6, q7, q8, q9, q10, q11⟩ := hHeldB
            exact ⟨keep_cell hb q0, keep_cell hb q1, keep_cell hb q2, keep_cell hb q3, keep_cell hb q4, keep_cell hb q5, keep_cell hb q6, keep_cell hb q7, keep_cell hb q8, keep_cell hb q9, below_next q10 hb q11, le_next q11 hb⟩
          clear hK K hb hHeldB
          (try simp only [Act.put, List.setIfInBounds_toArray, List.set_cons_zero, List.set_cons_succ])
          refine wpAnyH_take (i := 7) (oi := { dst := some 107, op := Op.pick (Operand.tmp 103) (Operand.tmp 106) (Operand.const (Value.bool false)), type := 4, pos := "law.go:113", after := #[{ on := 3, ground := Ground.data }, { on := 6, ground := Ground.data }], guard := none }) (v := ?_) rfl (by kernel_rfl) (by kernel_rfl) (by kernel_rfl) (fun _ _ _ h => h) (Or.inl ⟨by rfl, ?hyB7⟩) (by assumption) ?_
          case hyB7 => (intro w hSw; (try dsimp only at hSw); go_simp; try with_reducible rfl)
          (try simp only [Act.put, List.setIfInBounds_toArray, List.set_cons_zero, List.set_cons_succ])
          refine wpAnyH_take (i := 8) (oi := { dst := some 108, op := Op.move (Operand.tmp 107), type := 4, pos := "law.go:113", after := #[{ on := 7, ground := Ground.data }, { on := 6, ground := Ground.chain }], guard := none }) (v := ?_) rfl (by kernel_rfl) (by kernel_rfl) (by kernel_rfl) (fun _ _ _ h => h) (Or.inl ⟨by rfl, ?hyB8⟩) (by assumption) ?_
          case hyB8 => (intro w hSw; (try dsimp only at hSw); go_simp; try with_reducible rfl)
          (try simp only [Act.put, List.setIfInBounds_toArray, List.set_cons_zero, List.set_cons_succ])
          refine wpAnyH_take (i := 9) (oi := { dst := some 109, op := Op.load 36 (Operand.tmp 12), type := 36, pos := "law.go:113", after := #[{ on := 8, ground := Ground.guard }], guard := some (8, true) }) (v := ?_) rfl (by kernel_rfl) (by kernel_rfl) (by kernel_rfl) (fun _ _ _ h => h) (Or.inl ⟨by rfl, ?hyB9⟩) (by assumption) ?_
          case hyB9 => (intro w hSw; (try dsimp only at hSw); go_simp; try with_reducible rfl)
          (try simp only [Act.put, List.setIfInBounds_toArray, List.set_cons_zero, List.set_cons_succ])
          refine wpAnyH_take (i := 10) (oi := { dst := some 110, op := Op.load 66 (Operand.tmp 4), type := 66, pos := "law.go:113", after := #[{ on := 8, ground := Ground.guard }], guard := some (8, true) }) (v := ?_) rfl (by kernel_rfl) (by kernel_rfl) (by kernel_rfl) (fun _ _ _ h => h) (Or.inl ⟨by rfl, ?hyB10⟩) (by assumption) ?_
          case hyB10 => (intro w hSw; (try dsimp only at hSw); go_simp; try with_reducible rfl)
          (try simp only [Act.put, List.setIfInBounds_toArray, List.set_cons_zero, List.set_cons_succ])
          refine wpAnyH_take (i := 12) (oi := { dst := some 112, op := Op.load 49 (Operand.tmp 10), type := 49, pos := "law.go:113", after := #[{ on := 8, ground := Ground.guard }], guard := some (8, true) }) (v := ?_) rfl (by kernel_rfl) (by kernel_rfl) (by kernel_rfl) (fun _ _ _ h => h) (Or.inl ⟨by rfl, ?hyB12⟩) (by assumption) ?_
          case hyB12 => (intro w hSw; (try dsimp only at hSw); go_simp; try with_reducible rfl)
          (try simp only [Act.put, List.setIfInBounds_toArray, List.set_cons_zero, List.set_cons_succ])
          refine wpAnyH_take (i := 13) (oi := { dst := some 113, op := Op.move (Operand.tmp 13), type := 73, pos := "law.go:113", after := #[{ on := 8, ground := Ground.guard }], guard := some (8, true) }) (v := ?_) rfl (by kernel_rfl) (by kernel_rfl) (by kernel_rfl) (fun _ _ _ h => h) (Or.inl ⟨by rfl, ?hyB13⟩) (by assumption) ?_
          case hyB13 => (intro w hSw; (try dsimp only at hSw); go_simp; try with_reducible rfl)
          (try simp only [Act.put, List.setIfInBounds_toArray, List.set_cons_zero, List.set_cons_succ])
          refine wpAnyH_take (i := 14) (oi := { dst := some 114, op := Op.indexAddr 73 (Operand.tmp 113) (Operand.const (Value.int IntKind.i64 0)), type := 0, pos := "law.go:113", after := #[{ on := 13, ground := Ground.data }, { on := 8, ground := Ground.guard }], guard := some (8, true) }) (v := ?_) rfl (by kernel_rfl) (by kernel_rfl) (by kernel_rfl) (fun _ _ _ h => h) (Or.inl ⟨by rfl, ?hyB14⟩) (by assumption) ?_
          case hyB14 => (intro w hSw; (try dsimp only at hSw); go_simp; try with_reducible rfl)
          (try simp only [Act.put, List.setIfInBounds_toArray, List.set_cons_zero, List.set_cons_succ])
          refine wpAnyH_take (i := 15) (oi := { dst := some 115, op := Op.load 81 (Operand.tmp 114), type := 81, pos := "law.go:113", after := #[{ on := 14, ground := Ground.data }, { on := 8, ground := Ground.guard }], guard := some (8, true) }) (v := ?_) rfl (by kernel_rfl) (by kernel_rfl) (by kernel_rfl) (fun _ _ _ h => h) (Or.inl ⟨by rfl, ?hyB15⟩) (by assumption) ?_
          case hyB15 => (intro w hSw; (try dsimp only at hSw); go_simp; try with_reducible rfl)
          (try simp only [Act.put, List.setIfInBounds_toArray, List.set_cons_zero, List.set_cons_succ])
          refine wpAnyH_ready (rs := [11]) (by kernel_rfl) (by simp) ?_
          refine AllReadyH.cons (o := { dst := some 111, op := Op.call { callee := Callee.value (Operand.func 33), args := #[Operand.tmp 109, Operand.tmp 110], argTypes := #[36, 66] }, type := 4, pos := "law.go:113", after := #[{ on := 9, ground := Ground.data }, { on := 10, ground := Ground.data }, { on := 8, ground := Ground.chain }, { on := 8, ground := Ground.guard }], guard := some (8, true) }) rfl (fun K hK => ?_) AllReadyH.nil
          go_simp
          refine (HAl.out _ (next_trans HBb.out (next_trans HBd.out (hHeldBx.2.2.2.2.2.2.2.2.2.2.1)))).mono ?_
          rintro e wf ⟨rfl, hb⟩
          refine hK.out _ _ ?_ (fun hHeldBxx => ?_)
          · obtain ⟨q0, q1, q2, q3, q4, q5, q6, q7, q8, q9, q10, q11⟩ := hHeldBx
            exact ⟨keep_cell hb q0, keep_cell hb q1, keep_cell hb q2, keep_cell hb q3, keep_cell hb q4, keep_cell hb q5, keep_cell hb q6, keep_cell hb q7, keep_cell hb q8, keep_cell hb q9, below_next q10 hb q11, le_next q11 hb⟩
          clear hK K hb hHeldBx
          (try simp only [Act.put, List.setIfInBounds_toArray, List.set_cons_zero, List.set_cons_succ])
          refine wpAnyH_ready (rs := [16]) (by kernel_rfl) (by simp) ?_
          refine AllReadyH.cons (o := { dst := some 116, op := Op.call { callee := Callee.value (Operand.func 34), args := #[Operand.tmp 112, Operand.tmp 115], argTypes := #[49, 81] }, type := 4, pos := "law.go:113", after := #[{ on := 12, ground := Ground.data }, { on := 15, ground := Ground.data }, { on := 11, ground := Ground.chain }, { on := 8, ground := Ground.guard }], guard := some (8, true) }) rfl (fun K hK => ?_) AllReadyH.nil
          go_simp
          refine (HAr.out _ (next_trans HBb.out (next_trans HBd.out (hHeldBxx.2.2.2.2.2.2.2.2.2.2.1)))).mono ?_
          rintro e wg ⟨rfl, hb⟩
          refine hK.out _ _ ?_ (fun hHeldBxxx => ?_)
          · obtain ⟨q0, q1, q2, q3, q4, q5, q6, q7, q8, q9, q10, q11⟩ := hHeldBxx
            exact ⟨keep_cell hb q0, keep_cell hb q1, keep_cell hb q2, keep_cell hb q3, keep_cell hb q4, keep_cell hb q5, keep_cell hb q6, keep_cell hb q7, keep_cell hb q8, keep_cell hb q9, below_next q10 hb q11, le_next q11 hb⟩
          clear hK K hb hHeldBxx
          (try simp only [Act.put, List.setIfInBounds_toArray, List.set_cons_zero, List.set_cons_succ])
          refine wpAnyH_take (i := 17) (oi := { dst := some 117, op := Op.binOp BinOp.eql 4 (Operand.tmp 111) (Operand.tmp 116) 4, type := 4, pos := "law.go:113", after := #[{ on := 11, ground := Ground.data }, { on := 16, ground := Ground.data }, { on := 8, ground := Ground.guard }], guard := some (8, true) }) (v := ?_) rfl (by kernel_rfl) (by kernel_rfl) (by kernel_rfl) (fun _ _ _ h => h) (Or.inl ⟨by rfl, ?hyB17⟩) (by assumption) ?_
          case hyB17 => (intro w hSw; (try dsimp only at hSw); go_simp; try with_reducible rfl)
          (try simp only [Act.put, List.setIfInBounds_toArray, List.set_cons_zero, List.set_cons_succ])
          refine wpAnyH_take (i := 18) (oi := { dst := some 118, op := Op.pick (Operand.tmp 108) (Operand.tmp 117) (Operand.const (Value.bool false)), type := 4, pos := "law.go:113", after := #[{ on := 8, ground := Ground.data }, { on := 17, ground := Ground.data }], guard := none }) (v := ?_) rfl (by kernel_rfl) (by kernel_rfl) (by kernel_rfl) (fun _ _ _ h => h) (Or.inl ⟨by rfl, ?hyB18⟩) (by assumption) ?_
          case hyB18 => (intro w hSw; (try dsimp only at hSw); go_simp; try with_reducible rfl)
          (try simp only [Act.put, List.setIfInBounds_toArray, List.set_cons_zero, List.set_cons_succ])
          refine wpAnyH_take (i := 19) (oi := { dst := some 6, op := Op.assign (Operand.tmp 118), type := 4, pos := "law.go:113", after := #[{ on := 18, ground := Ground.data }, { on := 16, ground := Ground.chain }, { on := 0, ground := Ground.phase }, { on := 1, ground := Ground.phase }, { on := 2, ground := Ground.phase }, { on := 3, ground := Ground.phase }, { on := 4, ground := Ground.phase }, { on := 5, ground := Ground.phase }, { on := 6, ground := Ground.phase }, { on := 7, ground := Ground.phase }, { on := 8, ground := Ground.phase }, { on := 9, ground := Ground.phase }, { on := 10, ground := Ground.phase }, { on := 11, ground := Ground.phase }, { on := 12, ground := Ground.phase }, { on := 13, ground := Ground.phase }, { on := 14, ground := Ground.phase }, { on := 15, ground := Ground.phase }, { on := 16, ground := Ground.phase }, { on := 17, ground := Ground.phase }, { on := 18, ground := Ground.phase }], guard := none }) (v := ?_) rfl (by kernel_rfl) (by kernel_rfl) (by kernel_rfl) (fun _ _ _ h => h) (Or.inl ⟨by rfl, ?hyB19⟩) (by assumption) ?_
          case hyB19 => (intro w hSw; (try dsimp only at hSw); go_simp; try with_reducible rfl)
          (try simp only [Act.put, List.setIfInBounds_toArray, List.set_cons_zero, List.set_cons_succ])
          refine wpAnyH_done (by kernel_rfl) ?_ _
          have HBe : Hid (Below w.heap.size w _) := next_trans HBa.out (next_trans HBb.out (next_trans HBd.out (hHeldBxxx.2.2.2.2.2.2.2.2.2.2.1)))
          go_wp2
          go_ret
          exact ⟨rfl, HBe.out⟩
end Go.Proofs.YtnhbjhdkpbhioaaGreatDoor
