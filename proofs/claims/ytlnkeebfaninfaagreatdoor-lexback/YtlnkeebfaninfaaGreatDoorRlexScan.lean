/- The contract of the reference's Scan. -/
import Derived.Test.YtlnkeebfaninfaaGreatDoorRlexOne2
import Derived.Test.YtlnkeebfaninfaaGreatDoorLexScan
namespace Go.Proofs.YtlnkeebfaninfaaGreatDoor
open Go.RowKit

theorem rone_any (b o n cap p : Nat) (l : List UInt8) (c : UInt8) (w : World) (hl : l.length = n) (hn : n ≤ 100000) (hcap : n ≤ cap) (hp : p < n) (hb : Bs w b o l) (hc : l[p]? = some c) (m : Rd) (hm : oneL (l.drop p) = m) :
    Calls Tryz.prog 17 #[.slice (some ⟨b, o, none⟩) n cap, .int .i64 (p : Int)] w fun e w' => ROne p m e ∧ Below w.heap.size w w' := by
  rw [drop_at hc] at hm
  have key : ∀ (K : Int), ((c.toNat = 40 ∧ K = 4) ∨ (c.toNat = 41 ∧ K = 5) ∨ (c.toNat = 126 ∧ K = 8)) → m = okR K 0 [] 1 → Calls Tryz.prog 17 #[.slice (some ⟨b, o, none⟩) n cap, .int .i64 (p : Int)] w fun e w' => ROne p m e ∧ Below w.heap.size w w' := by
    intro K hK e
    refine (rone_mark b o n cap p l c w hn hp hb hc K hK).mono ?_
    rintro e' w' ⟨rfl, hb2⟩
    rw [e]
    exact ⟨rone_ok p K 0 [] 1 _ rfl, hb2⟩
  by_cases k1 : c.toNat = 40
  · exact key 4 (.inl ⟨k1, rfl⟩) (by rw [← hm, one_open c _ k1])
  by_cases k2 : c.toNat = 41
  · exact key 5 (.inr (.inl ⟨k2, rfl⟩)) (by rw [← hm, one_close c _ k2])
  by_cases k3 : c.toNat = 126
  · exact key 8 (.inr (.inr ⟨k3, rfl⟩)) (by rw [← hm, one_not c _ k3])
  by_cases k4 : c.toNat = 34
  · exact rone_str b o n cap p l c w hl hn hp hb hc k4 m (by rw [Hid, ← hm, one_str c _ k4])
  by_cases k5 : c.toNat = 63
  · rw [one_var c _ k5] at hm
    by_cases h1 : p + 1 < n
    · have hkl : p + 1 < l.length := by omega
      obtain ⟨d, hd⟩ : ∃ d, l[p + 1]? = some d := ⟨_, List.getElem?_eq_getElem hkl⟩
      by_cases h42 : d.toNat = 42
      · have hs : starL (l.drop (p + 1)) = true := by rw [drop_at hd]; show decide (d.toNat = 42) = true; simpa using h42
        rw [var_glob hs, List.drop_drop] at hm
        rw [← hm]
        exact rone_glob b o n cap p l c w hl hn hcap hb hc k5 d hd h42 h1
      · have hs : starL (l.drop (p + 1)) = false := by rw [drop_at hd]; show decide (d.toNat = 42) = false; simpa using h42
        rw [var_plain hs] at hm
        rw [← hm]
        exact rone_plain1 b o n cap p l c w hl hn hcap hb hc k5 d hd h42 h1
    · have hs : starL (l.drop (p + 1)) = false := star_no (by rw [List.length_drop]; omega)
      rw [var_plain hs] at hm
      rw [← hm]
      exact rone_plain0 b o n cap p l c w hl hn hcap hb hc k5 (by omega)
  · rw [one_word c _ (by omega), ← drop_at hc] at hm
    exact rone_word b o n cap p l c w hl hn hcap hp hb hc (by omega) m hm

theorem inR : (Tryz.prog.info? 41).map (fun i => (i.zero, i.size, i.bytes)) = some (some (.agg #[.int .i64 (0), .int .i64 (0), .int .i64 (0), .string (⟨#[]⟩)]), 4, 40) := by kernel_rfl
theorem inR' : ∃ i, Tryz.prog.info? 41 = some i ∧ i.zero = some (.agg #[.int .i64 (0), .int .i64 (0), .int .i64 (0), .string (⟨#[]⟩)]) ∧ i.size = 4 ∧ i.bytes = 40 := by
  obtain ⟨i, h, e⟩ := Option.map_eq_some_iff.1 inR
  simp only [Prod.mk.injEq] at e
  exact ⟨i, h, e.1, e.2.1, e.2.2⟩
/-- What the reference's Scan tells. -/
structure RScanR (w w' : World) (e : Ending) (r : Out) : Prop where
  bel : Below w.heap.size w w'
  res : ∃ v, e = .returned (.tuple #[v, .int .i64 (r.a : Int), .int .i64 r.e]) ∧ w'.ownsRow w.heap.size 41 4 v r.l.length (toksC r.l)

set_option maxHeartbeats 8000000 in
set_option maxRecDepth 4000 in
theorem rscan_any (ao : Option Addr) (n cap : Nat) (l : List UInt8) (w : World) (hl : l.length = n) (h : IsB w ao l) (hn : n ≤ 65536) (hc : n ≤ cap) :
    Calls Tryz.prog 8 #[.slice ao n cap] w fun e w' => RScanR w w' e (scanQ l 0 []) := by
  obtain ⟨i0, hi, hz0, hz1, hz2⟩ := inR'
  obtain ⟨R, HR⟩ : ∃ R, Hid (scanQ l 0 [] = R) := ⟨_, rfl⟩
  rw [HR.out]
  have HI : Hid (IsB w ao l) := h
  have HL : Hid (l.length = n) := hl
  have hni : ¬ (65536 : Int) < (n : Int) := by omega
  obtain ⟨B, HB⟩ : ∃ B, Hid (w.heap.size = B) := ⟨_, rfl⟩
  clear h hl
  go_enter Tryz.func8, Tryz.ntmps8
  go_wp2
  go_loopw [5, 6] (fun v i wr => ∃ (p : Nat) (acc : List Tk), p ≤ n ∧ i = .int .i64 p ∧ Hid (scanQ l p acc = R) ∧ Hid (wr.ownsRow B 41 4 v acc.length (toksC acc)) ∧ Hid (Below w.heap.size w wr) ∧ Hid (acc.length ≤ p)) (fun _ i _ => n - (intOf i).toNat)
  case atStart => exact ⟨0, [], Nat.zero_le _, rfl, HR, World.ownsRow_nil _ _ _ _, Below.refl _ _, Nat.zero_le _⟩
  case round =>
    obtain ⟨p, acc, hpn, rfl, HS, HO, HW, HA⟩ := hrel
    by_cases hlt : p < n
    · have hli : (p : Int) < (n : Int) := by omega
      have hpl : p < l.length := by rw [HL.out]; exact hlt
      obtain ⟨b, o, rfl, hbs⟩ := HI.out (by omega)
      have HI2 : Hid (Bs w b o l) := hbs
      obtain ⟨c, HC⟩ : ∃ c, Hid (l[p]? = some c) := ⟨_, List.getElem?_eq_getElem hpl⟩
      have c0 := (HI2.out.next HW.out).get HC.out
      clear hbs
      cases hb : blankB c
      · have HBl : Hid (∀ w : World, Calls Tryz.prog 16 #[.int .u8 (c.toNat : Int)] w fun e w' => e = .returned (.bool false) ∧ w' = w) := by
          intro w; rw [← hb]; exact rblank_any c w
        by_cases c59 : c.toNat = 59
        · have d1 : ((c.toNat : Int) == 59) = true := by simp; omega
          have HQ := Q_line' HC.out c59
          obtain ⟨hz1', hz2'⟩ := line_pos HC.out c59
          obtain ⟨z, HZ⟩ : ∃ z, Hid (runN lineB (l.drop p) = z) := ⟨_, rfl⟩
          have HIn : Hid (∀ j c, l[p + j]? = some c → j < z → lineB c = true) := fun j c h1 h2 => run_in h1 (by rw [HZ.out]; exact h2)
          have HOut : Hid (∀ c, l[p + z]? = some c → lineB c = false) := fun c h1 => run_out (p := lineB) (a := p) (by rw [HZ.out]; exact h1)
          rw [HZ.out] at HQ hz1' hz2'
          rw [HL.out] at hz2'
          have HS2 : Hid (scanQ l (p + z) acc = R) := by rw [Hid, ← HQ]; exact HS.out
          have HA2 : Hid (acc.length ≤ p + z) := by have := HA.out; rw [Hid]; omega
          clear c59 HQ hb
          go_wp2_with (go_at_call 16; refine (HBl.out _).mono ?_; rintro e w1 ⟨rfl, rfl⟩)
          clear c0
          go_loop [6] (fun i => ∃ j : Nat, j ≤ z ∧ i = .int .i64 ((p : Int) + (j : Int))) (fun i => n - (intOf i).toNat)
          case atStart => exact ⟨0, Nat.zero_le _, by go_num⟩
          case round =>
            obtain ⟨j, hj, rfl⟩ := hrel
            by_cases hlt2 : p + j < n
            · have hli2 : (p : Int) + (j : Int) < (n : Int) := by omega
              have hkl2 : p + j < l.length := by rw [HL.out]; exact hlt2
              obtain ⟨d, HD⟩ : ∃ d, Hid (l[p + j]? = some d) := ⟨_, List.getElem?_eq_getElem hkl2⟩
              have c2 := (HI2.out.next HW.out).get HD.out
              by_cases hjz : j < z
              · have hpc := HIn.out j d HD.out hjz
                have d10 : ((d.toNat : Int) == 10) = false := by
                  unfold lineB at hpc
                  have : d.toNat ≠ 10 := by intro e; simp [e] at hpc
                  simp; omega
                clear hpc
                go_wp2
                go_round
                case rel => exact ⟨j + 1, by omega, by go_num⟩
                case measure => simp [intOf]; omega
              · obtain rfl : z = j := by omega
                have hpc := HOut.out d HD.out
                have d10 : ((d.toNat : Int) == 10) = true := by
                  unfold lineB at hpc
                  have : d.toNat = 10 := by simpa using hpc
                  simp; omega
                clear hpc
                go_wp2
                go_round
                case rel => exact ⟨p + z, acc, by omega, by go_num, HS2, HO, HW, HA2⟩
                case measure => simp [intOf]; omega
            · have hli2 : ¬ (p : Int) + (j : Int) < (n : Int) := by omega
              obtain rfl : z = j := by omega
              go_wp2
              go_round
              case rel => exact ⟨p + z, acc, by omega, by go_num, HS2, HO, HW, HA2⟩
              case measure => simp [intOf]; omega
        · have d1 : ((c.toNat : Int) == 59) = false := by simp; omega
          have HT : Hid (stopL l p) := by
            intro x hx
            rw [HC.out] at hx
            obtain rfl := Option.some.inj hx
            exact ⟨hb, c59⟩
          obtain ⟨m, Hm⟩ : ∃ m, Hid (oneL (l.drop p) = m) := ⟨_, rfl⟩
          have HRd : Hid (∀ w' : World, Below w.heap.size w w' → Calls Tryz.prog 17 #[.slice (some ⟨b, o, none⟩) n cap, .int .i64 (p : Int)] w' fun e w2 => ROne p m e ∧ Below w'.heap.size w' w2) :=
            fun w' hb => rone_any b o n cap p l c w' HL.out (by omega) hc hlt (HI2.out.next hb) HC.out m Hm.out
          clear c59 hb
          by_cases he : m.e = 0
          · obtain ⟨hz3, hz4⟩ := one_bd hpl Hm.out he
            have HS1 : Hid (scanQ l (p + m.z) (acc ++ [⟨m.k, p, m.i, m.s⟩]) = R) := by rw [Hid, ← Q_tok' HC.out HT.out Hm.out he]; exact HS.out
            rw [HL.out] at hz4
            clear Hm HS HT
            go_wp2_with (first | (go_at_call 16; refine (HBl.out _).mono ?_; rintro e w1 ⟨rfl, rfl⟩) | (go_at_call 17; refine (HRd.out _ HW.out).mono ?_))
            rintro e w2 ⟨⟨k, i, s, z, rfl, hm⟩, hb2⟩
            obtain ⟨rfl, rfl, rfl, rfl⟩ := hm he
            have HB2 : Hid (Below w.heap.size w w2) := next_trans HW.out hb2
            have HO2 : Hid (w2.ownsRow B 41 4 u5 acc.length (toksC acc)) := own_next HO.out hb2
            clear hb2 HRd hm c0
            obtain ⟨me, mk, mi, ms, mz⟩ := m
            simp only at he HS1 hz3 hz4
            subst he
            simp only
            go_wp2_with (at_builtin; refine wpList_append_own _ rfl _ _ 29 rfl B 41 i0 (.agg #[.int .i64 (0), .int .i64 (0), .int .i64 (0), .string (⟨#[]⟩)]) 4 40 Tryz.underlying29 hi hz0 hz1 hz2 rfl (by decide) _ _ _ rfl ((HO2.out.alloc _).alloc _) ⟨w2.heap.size + 1, 0, none⟩ 1 1 [.int .i64 mk, .int .i64 (p : Int), .int .i64 mi, .string (baL ms)] rfl rfl ?c1 ?c2 ?c3 ?c4 ?c5 ?_)
            case c1 =>
              intro j u hj
              match j, hj with
              | 0, hj => simp at hj; subst hj; simp [Addr.add]
              | 1, hj => simp at hj; subst hj; simp [Addr.add]
              | 2, hj => simp at hj; subst hj; simp [Addr.add]
              | 3, hj => simp at hj; subst hj; simp [Addr.add]
            case c2 => intro u hu; simp at hu; rcases hu with rfl | rfl | rfl | rfl <;> rfl
            case c3 => have := HA.out; unfold maxLen; omega
            case c4 => have := HA.out; omega
            case c5 => have := HB2.out.size; have := HB.out; simp; omega
            intro s2 w3 ho hg _
            have HO3 : Hid (w3.ownsRow B 41 4 s2 (acc ++ [(⟨mk, p, mi, ms⟩ : Tk)]).length (toksC (acc ++ [(⟨mk, p, mi, ms⟩ : Tk)]))) := by
              rw [← toks_snoc, Hid, List.length_append]; exact ho
            have HB3 : Hid (Below w.heap.size w w3) := by
              have hs := HB2.out.size
              refine HB2.out.trans ((((Below.refl _ w2).alloc hs _).alloc (by simp; omega) _).grown hg (by simp; omega) (fun k hk => ?_))
              have := (HO2.out.lt k hk).1
              rw [HB.out]; exact this
            have HA3 : Hid ((acc ++ [(⟨mk, p, mi, ms⟩ : Tk)]).length ≤ p + mz) := by have := HA.out; rw [Hid, List.length_append, List.length_singleton]; omega
            clear ho hg
            go_wp2
            go_round
            case rel => exact ⟨p + mz, acc ++ [⟨mk, p, mi, ms⟩], hz4, by go_num, HS1, HO3, HB3, HA3⟩
            case measure => simp [intOf]; omega
          · have hei : (m.e == 0) = false := by simpa using he
            have HE : Hid (R = ⟨[], p, m.e⟩) := by rw [Hid, ← HS.out]; exact Q_bad' HC.out HT.out Hm.out he acc
            clear Hm HS HT
            go_wp2_with (first | (go_at_call 16; refine (HBl.out _).mono ?_; rintro e w1 ⟨rfl, rfl⟩) | (go_at_call 17; refine (HRd.out _ HW.out).mono ?_))
            rintro e w2 ⟨⟨k, i, s, z, rfl, hm⟩, hb2⟩
            have HB2 : Hid (Below w.heap.size w w2) := next_trans HW.out hb2
            clear hb2 HRd hm c0 he
            obtain ⟨me, mk, mi, ms, mz⟩ := m
            simp only at hei HE ⊢
            go_wp2
            rw [HE.out]
            exact bodyPost_ret (v := .tuple #[.slice none 0 0, .int .i64 (p : Int), .int .i64 me]) (by simp [results, Tryz.results8, go_sem]) rfl ⟨next_trans HB2.out (alloc_below _ _), _, rfl, World.ownsRow_nil _ _ _ _⟩
      · have HBl : Hid (∀ w : World, Calls Tryz.prog 16 #[.int .u8 (c.toNat : Int)] w fun e w' => e = .returned (.bool true) ∧ w' = w) := by
          intro w; rw [← hb]; exact rblank_any c w
        have HS2 : Hid (scanQ l (p + 1) acc = R) := by rw [Hid, ← Q_blank' HC.out hb]; exact HS.out
        have HA2 : Hid (acc.length ≤ p + 1) := by have := HA.out; rw [Hid]; omega
        clear hb
        go_wp2_with (go_at_call 16; refine (HBl.out _).mono ?_; rintro e w1 ⟨rfl, rfl⟩)
        go_round
        case rel => exact ⟨p + 1, acc, by omega, by go_num, HS2, HO, HW, HA2⟩
        case measure => simp [intOf]; omega
    · have hli : ¬ (p : Int) < (n : Int) := by omega
      have HE : Hid (R = ⟨acc, 0, 0⟩) := by rw [Hid, ← HS.out]; exact Q_end l p acc (by rw [HL.out]; omega)
      go_wp2
      rw [HE.out]
      exact bodyPost_ret (v := .tuple #[u5, .int .i64 0, .int .i64 0]) (by simp [results, Tryz.results8, go_sem]) rfl ⟨HW.out, _, rfl, by rw [HB.out]; exact HO.out⟩
end Go.Proofs.YtlnkeebfaninfaaGreatDoor
