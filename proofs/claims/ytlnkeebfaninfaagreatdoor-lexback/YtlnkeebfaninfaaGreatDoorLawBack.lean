/- The walk of LexBack. -/
import Derived.Test.YtlnkeebfaninfaaGreatDoorBackMath
import Derived.Test.YtlnkeebfaninfaaGreatDoorRlexScan
import Derived.Deep.RegionHeld3
import Derived.Deep.QuietTactic
import Derived.BigQuiet
namespace Go.Proofs.YtlnkeebfaninfaaGreatDoor
open Go.RowKit

theorem rscan_to (ao : Option Addr) (n cap : Nat) (l : List UInt8) (R : Out) (w : World) (hl : l.length = n) (h : IsB w ao l) (hn : n ≤ 65536) (hc : n ≤ cap) (hs : scanQ l 0 [] = R) :
    Calls Tryz.prog 8 #[.slice ao n cap] w fun e w' => (∃ to tc, e = .returned (.tuple #[.slice to R.l.length tc, .int .i64 (R.a : Int), .int .i64 R.e]) ∧ IsToks w' to R.l) ∧ Below w.heap.size w w' := by
  refine (rscan_any ao n cap l w hl h hn hc).mono ?_
  rintro e w1 ⟨hb1, v, rfl, ho⟩
  rw [hs] at ho ⊢
  obtain ⟨to, tc, rfl, ht⟩ := own_toks ho
  exact ⟨⟨to, tc, rfl, ht⟩, hb1⟩

set_option maxHeartbeats 16000000 in
set_option maxRecDepth 8000 in
theorem back_walk (ao : Option Addr) (n cap : Nat) (l : List UInt8) (bo : Option Addr) (nb cb : Nat) (bl : List UInt8) (w : World) (hl : l.length = n) (h : IsB w ao l) (hc : n ≤ cap) (hlb : bl.length = nb) (hb : IsB w bo bl) (_ : nb ≤ cb) (h4 : Lib4 w) :
    Calls Tryz.prog 4 #[.slice ao n cap, .slice bo nb cb] w fun e w' => e = .returned (.bool true) ∧ Below w.heap.size w w' := by
  have H4 : Hid (Lib4 w) := h4
  have HI : Hid (IsB w ao l) := h
  have HL : Hid (l.length = n) := hl
  have HIb : Hid (IsB w bo bl) := hb
  have HLb : Hid (bl.length = nb) := hlb
  clear h hl h4 hb hlb
  go_enter Tryz.func4, Tryz.ntmps4
  go_wp2_with fail
  refine (known_any w H4.out).mono ?_
  rintro e w1 ⟨rfl, hb1⟩
  have HB1 : Hid (Below w.heap.size w w1) := hb1
  clear hb1
  by_cases hn : 1000 < n
  · have hni : (1000 : Int) < (n : Int) := by omega
    go_wp2
    go_ret
    exact ⟨rfl, HB1.out⟩
  have hni : ¬ (1000 : Int) < (n : Int) := by omega
  by_cases hnb : 100 < nb
  · have hnbi : (100 : Int) < (nb : Int) := by omega
    go_wp2
    go_ret
    exact ⟨rfl, HB1.out⟩
  have hnbi : ¬ (100 : Int) < (nb : Int) := by omega
  obtain ⟨R, HR⟩ : ∃ R, Hid (scanQ l 0 [] = R) := ⟨_, rfl⟩
  have HRs : Hid (sumS R.l ≤ 1000) := by have := scanQ_sum l; have := HL.out; rw [HR.out] at *; rw [Hid]; omega
  have HWf : Hid (∀ t ∈ R.l, WfT t.k t.i t.s) := by have := scanQ_wf l; rw [HR.out] at this; exact this
  go_wp2_with fail
  refine (rscan_to ao n cap l R _ HL.out (HI.out.next HB1.out) (by omega) hc HR.out).mono ?_
  rintro e w3 ⟨⟨to2, tc2, rfl, ht2⟩, hb3⟩
  have HB3 : Hid (Below w.heap.size w w3) := next_trans HB1.out hb3
  have HT2 : Hid (IsToks w3 to2 R.l) := ht2
  clear ht2 hb3
  obtain ⟨L, a, f⟩ := R
  simp only at HRs HWf HT2 ⊢
  obtain ⟨N, HN⟩ : ∃ N, Hid (L.length = N) := ⟨_, rfl⟩
  rw [HN.out]
  by_cases hf : f ≠ 0
  · have hfi : (f == 0) = false := by simpa using hf
    go_wp2
    go_ret
    exact ⟨rfl, HB3.out⟩
  have hf0 : f = 0 := by simpa using hf
  subst hf0
  clear hf
  by_cases hN : 500 < N
  · have hNi : (500 : Int) < (N : Int) := by omega
    go_wp2
    go_ret
    exact ⟨rfl, HB3.out⟩
  have hNi : ¬ (500 : Int) < (N : Int) := by omega
  go_wp2
  go_loopw [8, 9] (fun v i wr => ∃ (k : Nat) (T : List UInt8), k ≤ N ∧ i = .int .i64 k ∧ v = .string (baL T) ∧ Hid (BackTo L k T) ∧ Hid (Below w3.heap.size w3 wr)) (fun _ i _ => N - (intOf i).toNat)
  case atStart => exact ⟨0, [], Nat.zero_le _, rfl, rfl, back_nil L, Below.refl _ _⟩
  case round =>
    obtain ⟨k, T, hk, rfl, rfl, HT, HW⟩ := hrel
    have HW0 : Hid (Below w.heap.size w wr) := next_trans HB3.out HW.out
    obtain ⟨NS, HNS⟩ : ∃ NS, Hid (T.length = NS) := ⟨_, rfl⟩
    have hNS : NS ≤ 20500 := by
      have h1 := HT.out.2
      have h2 := sumS_take L k
      have h3 := HRs.out
      have h4 := HNS.out
      omega
    have hsz : (baL T).size = NS := HNS.out
    obtain ⟨S, HSS⟩ : ∃ S, Hid (baL T = S) := ⟨_, rfl⟩
    rw [HSS.out] at hsz ⊢
    by_cases hlt : k < N
    · have hli : (k : Int) < (N : Int) := by omega
      have hl0 : (0 : Int) ≤ (k : Int) := by omega
      obtain ⟨t, HG⟩ : ∃ t, Hid (L[k]? = some t) := ⟨_, List.getElem?_eq_getElem (by rw [HN.out]; exact hlt)⟩
      obtain ⟨b2, o2, rfl, e0, e1, e2, e3⟩ := (HT2.out.next HW.out) k t HG.out
      have hwf := HWf.out t (List.mem_of_getElem? HG.out)
      obtain ⟨hs1, hs2⟩ := wf_bd hwf
      have hkd := wf_kind hwf
      have hXl := tokL_len hwf
      have H1 : Hid (∀ w', TabW w' → Calls Tryz.prog 11 #[.agg #[.int .i64 (t.k), .int .i64 ((t.a : Int)), .int .i64 (t.i), .string (baL t.s)]] w' fun e w2 => e = .returned (.string (tokS t.k t.i (baL t.s))) ∧ Below w'.heap.size w' w2) :=
        fun w' h => lex_text t.k _ t.i _ w' hkd (by rw [baL_size]; omega) hs2 h
      obtain ⟨tk, ta, ti, ts⟩ := t
      simp only at e0 e1 e2 e3 H1 hwf hXl hs1
      obtain ⟨X, HX⟩ : ∃ X, Hid (baL (tokL tk ti ts) = X) := ⟨_, rfl⟩
      have hXM : X.size ≤ 2023 := by rw [← HX.out, baL_size]; omega
      obtain ⟨M, hM⟩ : ∃ M, X.size = M := ⟨_, rfl⟩
      rw [hM] at hXM
      rw [show tokS tk ti (baL ts) = X from HX.out] at H1
      obtain ⟨Y, HY⟩ : ∃ Y, Hid (baL ts = Y) := ⟨_, rfl⟩
      rw [HY.out] at H1 e3
      obtain ⟨ta', HTa⟩ : ∃ ta' : Int, Hid ((ta : Int) = ta') := ⟨_, rfl⟩
      rw [HTa.out] at H1 e1
      clear hs1 hs2 hkd hXl
      have hcat : ∀ w, (Op.stringOp .add S X).run Tryz.prog w = .ok (.string (S ++ X)) w := fun w => run_string_add w S X (by omega) (by omega)
      have s0 : Below w3.heap.size w3 wr.drew := HW.out.drew
      have s1 : w3.heap.size ≤ wr.drew.heap.size := s0.size
      have s2 : TabW wr.drew := tab_from H4.out.tab (next_trans HB3.out s0) (Nat.le_refl _)
      by_cases hbk : k < nb
      · have hbki : (k : Int) < (nb : Int) := by omega
        obtain ⟨bb, ob, rfl, hbs⟩ := HIb.out (by rw [HLb.out]; omega)
        obtain ⟨c, HC⟩ : ∃ c, Hid (bl[k]? = some c) := ⟨_, List.getElem?_eq_getElem (by rw [HLb.out]; exact hbk)⟩
        have cb := (hbs.next HW0.out).get HC.out
        clear hbs
        have hr5 : c.toNat % 5 = 0 ∨ c.toNat % 5 = 1 ∨ c.toNat % 5 = 2 ∨ c.toNat % 5 = 3 ∨ c.toNat % 5 = 4 := by omega
        rcases hr5 with hr | hr | hr | hr | hr
        · have hr1 : (c.toNat : Int) % 5 = 0 := by omega
          clear hr
          have HXX : Hid (S ++ X ++ ⟨#[32]⟩ = baL (T ++ (tokL tk ti ts ++ [32]))) := by
            rw [Hid, ← HSS.out, ← HX.out]; apply ba_ext; rw [ba_app, ba_app, baL_list, baL_list, List.append_assoc]; rfl
          have HBk : Hid (BackTo L (k + 1) (T ++ (tokL tk ti ts ++ [32]))) := back_step HT.out HG.out hwf (sep_cons (by decide) sep_nil) (gap_cons _ (by decide)) (by simp) (by decide)
          clear hwf
          go_wp2
          go_region_held3 (fun w' => w'.cell? ⟨b2, o2 + k * 4, none⟩ = some (.int .i64 tk) ∧ w'.cell? ⟨b2, o2 + k * 4 + 1, none⟩ = some (.int .i64 ta') ∧ w'.cell? ⟨b2, o2 + k * 4 + 2, none⟩ = some (.int .i64 ti) ∧ w'.cell? ⟨b2, o2 + k * 4 + 3, none⟩ = some (.string Y) ∧ w'.cell? ⟨bb, ob + k, none⟩ = some (.int .u8 (c.toNat : Int)) ∧ Below w3.heap.size w3 w' ∧ w3.heap.size ≤ w'.heap.size ∧ TabW w')
            (((try dsimp only); go_split_ands; refine ⟨?_, ?_, ?_, ?_, ?_, ?_, ?_, ?_⟩ <;> first | assumption | exact keep_cell (by assumption) (by assumption) | exact below_next (by assumption) (by assumption) (by assumption) | exact le_next (by assumption) (by assumption) | exact tab_next (by assumption) (by assumption)))
            (first
              | (go_at_call 11; refine (H1.out _ (by assumption)).mono ?_; rintro e w' ⟨rfl, hb⟩))
          all_goals
            go_split_ands
            go_wp2
            go_roundw
            case rel => exact ⟨k + 1, _, by omega, by go_num, by rw [HXX.out], HBk, by rw [Hid]; exact next_trans (by assumption) (alloc_below _ _)⟩
            case measure => simp [intOf]; omega
        · have hr1 : (c.toNat : Int) % 5 = 1 := by omega
          clear hr
          have HXX : Hid (S ++ X ++ ⟨#[10]⟩ = baL (T ++ (tokL tk ti ts ++ [10]))) := by
            rw [Hid, ← HSS.out, ← HX.out]; apply ba_ext; rw [ba_app, ba_app, baL_list, baL_list, List.append_assoc]; rfl
          have HBk : Hid (BackTo L (k + 1) (T ++ (tokL tk ti ts ++ [10]))) := back_step HT.out HG.out hwf (sep_cons (by decide) sep_nil) (gap_cons _ (by decide)) (by simp) (by decide)
          clear hwf
          go_wp2
          go_region_held3 (fun w' => w'.cell? ⟨b2, o2 + k * 4, none⟩ = some (.int .i64 tk) ∧ w'.cell? ⟨b2, o2 + k * 4 + 1, none⟩ = some (.int .i64 ta') ∧ w'.cell? ⟨b2, o2 + k * 4 + 2, none⟩ = some (.int .i64 ti) ∧ w'.cell? ⟨b2, o2 + k * 4 + 3, none⟩ = some (.string Y) ∧ w'.cell? ⟨bb, ob + k, none⟩ = some (.int .u8 (c.toNat : Int)) ∧ Below w3.heap.size w3 w' ∧ w3.heap.size ≤ w'.heap.size ∧ TabW w')
            (((try dsimp only); go_split_ands; refine ⟨?_, ?_, ?_, ?_, ?_, ?_, ?_, ?_⟩ <;> first | assumption | exact keep_cell (by assumption) (by assumption) | exact below_next (by assumption) (by assumption) (by assumption) | exact le_next (by assumption) (by assumption) | exact tab_next (by assumption) (by assumption)))
            (first
              | (go_at_call 11; refine (H1.out _ (by assumption)).mono ?_; rintro e w' ⟨rfl, hb⟩))
          all_goals
            go_split_ands
            go_wp2
            go_roundw
            case rel => exact ⟨k + 1, _, by omega, by go_num, by rw [HXX.out], HBk, by rw [Hid]; exact next_trans (by assumption) (alloc_below _ _)⟩
            case measure => simp [intOf]; omega
        · have hr1 : (c.toNat : Int) % 5 = 2 := by omega
          clear hr
          have HXX : Hid (S ++ X ++ ⟨#[9, 32]⟩ = baL (T ++ (tokL tk ti ts ++ [9, 32]))) := by
            rw [Hid, ← HSS.out, ← HX.out]; apply ba_ext; rw [ba_app, ba_app, baL_list, baL_list, List.append_assoc]; rfl
          have HBk : Hid (BackTo L (k + 1) (T ++ (tokL tk ti ts ++ [9, 32]))) := back_step HT.out HG.out hwf (sep_cons (by decide) (sep_cons (by decide) sep_nil)) (gap_cons _ (by decide)) (by simp) (by decide)
          clear hwf
          go_wp2
          go_region_held3 (fun w' => w'.cell? ⟨b2, o2 + k * 4, none⟩ = some (.int .i64 tk) ∧ w'.cell? ⟨b2, o2 + k * 4 + 1, none⟩ = some (.int .i64 ta') ∧ w'.cell? ⟨b2, o2 + k * 4 + 2, none⟩ = some (.int .i64 ti) ∧ w'.cell? ⟨b2, o2 + k * 4 + 3, none⟩ = some (.string Y) ∧ w'.cell? ⟨bb, ob + k, none⟩ = some (.int .u8 (c.toNat : Int)) ∧ Below w3.heap.size w3 w' ∧ w3.heap.size ≤ w'.heap.size ∧ TabW w')
            (((try dsimp only); go_split_ands; refine ⟨?_, ?_, ?_, ?_, ?_, ?_, ?_, ?_⟩ <;> first | assumption | exact keep_cell (by assumption) (by assumption) | exact below_next (by assumption) (by assumption) (by assumption) | exact le_next (by assumption) (by assumption) | exact tab_next (by assumption) (by assumption)))
            (first
              | (go_at_call 11; refine (H1.out _ (by assumption)).mono ?_; rintro e w' ⟨rfl, hb⟩))
          all_goals
            go_split_ands
            go_wp2
            go_roundw
            case rel => exact ⟨k + 1, _, by omega, by go_num, by rw [HXX.out], HBk, by rw [Hid]; exact next_trans (by assumption) (alloc_below _ _)⟩
            case measure => simp [intOf]; omega
        · have hr1 : (c.toNat : Int) % 5 = 3 := by omega
          clear hr
          have HXX : Hid (S ++ X ++ ⟨#[32, 59, 32, 97, 32, 40, 99, 111, 109, 109, 101, 110, 116, 10]⟩ = baL (T ++ (tokL tk ti ts ++ [32, 59, 32, 97, 32, 40, 99, 111, 109, 109, 101, 110, 116, 10]))) := by
            rw [Hid, ← HSS.out, ← HX.out]; apply ba_ext; rw [ba_app, ba_app, baL_list, baL_list, List.append_assoc]; rfl
          have HBk : Hid (BackTo L (k + 1) (T ++ (tokL tk ti ts ++ [32, 59, 32, 97, 32, 40, 99, 111, 109, 109, 101, 110, 116, 10]))) := back_step HT.out HG.out hwf (sep_cons (by decide) (sep_line (r := [32, 97, 32, 40, 99, 111, 109, 109, 101, 110, 116]) (by decide))) (gap_cons _ (by decide)) (by simp) (by decide)
          clear hwf
          go_wp2
          go_region_held3 (fun w' => w'.cell? ⟨b2, o2 + k * 4, none⟩ = some (.int .i64 tk) ∧ w'.cell? ⟨b2, o2 + k * 4 + 1, none⟩ = some (.int .i64 ta') ∧ w'.cell? ⟨b2, o2 + k * 4 + 2, none⟩ = some (.int .i64 ti) ∧ w'.cell? ⟨b2, o2 + k * 4 + 3, none⟩ = some (.string Y) ∧ w'.cell? ⟨bb, ob + k, none⟩ = some (.int .u8 (c.toNat : Int)) ∧ Below w3.heap.size w3 w' ∧ w3.heap.size ≤ w'.heap.size ∧ TabW w')
            (((try dsimp only); go_split_ands; refine ⟨?_, ?_, ?_, ?_, ?_, ?_, ?_, ?_⟩ <;> first | assumption | exact keep_cell (by assumption) (by assumption) | exact below_next (by assumption) (by assumption) (by assumption) | exact le_next (by assumption) (by assumption) | exact tab_next (by assumption) (by assumption)))
            (first
              | (go_at_call 11; refine (H1.out _ (by assumption)).mono ?_; rintro e w' ⟨rfl, hb⟩))
          all_goals
            go_split_ands
            go_wp2
            go_roundw
            case rel => exact ⟨k + 1, _, by omega, by go_num, by rw [HXX.out], HBk, by rw [Hid]; exact next_trans (by assumption) (alloc_below _ _)⟩
            case measure => simp [intOf]; omega
        · have hr1 : (c.toNat : Int) % 5 = 4 := by omega
          clear hr
          have HXX : Hid (S ++ X ++ ⟨#[13, 10]⟩ = baL (T ++ (tokL tk ti ts ++ [13, 10]))) := by
            rw [Hid, ← HSS.out, ← HX.out]; apply ba_ext; rw [ba_app, ba_app, baL_list, baL_list, List.append_assoc]; rfl
          have HBk : Hid (BackTo L (k + 1) (T ++ (tokL tk ti ts ++ [13, 10]))) := back_step HT.out HG.out hwf (sep_cons (by decide) (sep_cons (by decide) sep_nil)) (gap_cons _ (by decide)) (by simp) (by decide)
          clear hwf
          go_wp2
          go_region_held3 (fun w' => w'.cell? ⟨b2, o2 + k * 4, none⟩ = some (.int .i64 tk) ∧ w'.cell? ⟨b2, o2 + k * 4 + 1, none⟩ = some (.int .i64 ta') ∧ w'.cell? ⟨b2, o2 + k * 4 + 2, none⟩ = some (.int .i64 ti) ∧ w'.cell? ⟨b2, o2 + k * 4 + 3, none⟩ = some (.string Y) ∧ w'.cell? ⟨bb, ob + k, none⟩ = some (.int .u8 (c.toNat : Int)) ∧ Below w3.heap.size w3 w' ∧ w3.heap.size ≤ w'.heap.size ∧ TabW w')
            (((try dsimp only); go_split_ands; refine ⟨?_, ?_, ?_, ?_, ?_, ?_, ?_, ?_⟩ <;> first | assumption | exact keep_cell (by assumption) (by assumption) | exact below_next (by assumption) (by assumption) (by assumption) | exact le_next (by assumption) (by assumption) | exact tab_next (by assumption) (by assumption)))
            (first
              | (go_at_call 11; refine (H1.out _ (by assumption)).mono ?_; rintro e w' ⟨rfl, hb⟩))
          all_goals
            go_split_ands
            go_wp2
            go_roundw
            case rel => exact ⟨k + 1, _, by omega, by go_num, by rw [HXX.out], HBk, by rw [Hid]; exact next_trans (by assumption) (alloc_below _ _)⟩
            case measure => simp [intOf]; omega
      · have hbki : ¬ (k : Int) < (nb : Int) := by omega
        have HXX : Hid (S ++ X ++ ⟨#[32]⟩ = baL (T ++ (tokL tk ti ts ++ [32]))) := by
          rw [Hid, ← HSS.out, ← HX.out]; apply ba_ext; rw [ba_app, ba_app, baL_list, baL_list, List.append_assoc]; rfl
        have HBk : Hid (BackTo L (k + 1) (T ++ (tokL tk ti ts ++ [32]))) := back_step HT.out HG.out hwf (sep_cons (by decide) sep_nil) (gap_cons _ (by decide)) (by simp) (by decide)
        clear hwf
        go_wp2
        go_region_held3 (fun w' => w'.cell? ⟨b2, o2 + k * 4, none⟩ = some (.int .i64 tk) ∧ w'.cell? ⟨b2, o2 + k * 4 + 1, none⟩ = some (.int .i64 ta') ∧ w'.cell? ⟨b2, o2 + k * 4 + 2, none⟩ = some (.int .i64 ti) ∧ w'.cell? ⟨b2, o2 + k * 4 + 3, none⟩ = some (.string Y) ∧ Below w3.heap.size w3 w' ∧ w3.heap.size ≤ w'.heap.size ∧ TabW w')
          (((try dsimp only); go_split_ands; refine ⟨?_, ?_, ?_, ?_, ?_, ?_, ?_⟩ <;> first | assumption | exact keep_cell (by assumption) (by assumption) | exact below_next (by assumption) (by assumption) (by assumption) | exact le_next (by assumption) (by assumption) | exact tab_next (by assumption) (by assumption)))
          (first
            | (go_at_call 11; refine (H1.out _ (by assumption)).mono ?_; rintro e w' ⟨rfl, hb⟩))
        all_goals
          go_split_ands
          go_wp2
          go_roundw
          case rel => exact ⟨k + 1, _, by omega, by go_num, by rw [HXX.out], HBk, by rw [Hid]; exact next_trans (by assumption) (alloc_below _ _)⟩
          case measure => simp [intOf]; omega
    · have hli : ¬ (k : Int) < (N : Int) := by omega
      obtain rfl : N = k := by omega
      have HTN : Hid (BackTo L L.length T) := by rw [Hid, HN.out]; exact HT.out
      obtain ⟨P, HPl, HPc, HPs⟩ : ∃ P : List Tk, Hid (P.length = N) ∧ Hid (∀ j : Nat, (P[j]?).map core = (L[j]?).map core) ∧ Hid (scanS T 0 0 [] = ⟨P, 0, 0⟩) := by
        obtain ⟨P, h1, h2, h3⟩ := back_end HTN.out
        exact ⟨P, by rw [Hid, h1, HN.out], h2, h3⟩
      have hcv := conv_str S wr
      go_wp2_with fail
      refine (scan_conv S T P wr NS hsz HSS.out.symm (by have := HNS.out; omega) (H4.out.next HW0.out).max HPs.out).mono ?_
      rintro e w4 ⟨⟨to1, tc1, rfl, ht1⟩, hb4⟩
      rw [HPl.out]
      have HB4 : Hid (Below w.heap.size w w4) := next_trans HW0.out hb4
      have HT1 : Hid (IsToks w4 to1 P) := ht1
      have HT3 : Hid (IsToks w4 to2 L) := (HT2.out.next HW.out).next hb4
      clear hb4 ht1 hcv
      go_wp2
      go_loopw [13] (fun i wq => ∃ k : Nat, k ≤ N ∧ i = .int .i64 k ∧ Hid (Below w4.heap.size w4 wq)) (fun i _ => N - (intOf i).toNat)
      case atStart => exact ⟨0, Nat.zero_le _, rfl, Below.refl _ _⟩
      case round =>
        obtain ⟨k, hk2, rfl, HV⟩ := hrel
        by_cases hlt2 : k < N
        · have hli2 : (k : Int) < (N : Int) := by omega
          have hl2 : (0 : Int) ≤ (k : Int) := by omega
          obtain ⟨t, HG⟩ : ∃ t, Hid (L[k]? = some t) := ⟨_, List.getElem?_eq_getElem (by rw [HN.out]; exact hlt2)⟩
          obtain ⟨p, HGp⟩ : ∃ p, Hid (P[k]? = some p) := ⟨_, List.getElem?_eq_getElem (by rw [HPl.out]; exact hlt2)⟩
          obtain ⟨b1, o1, rfl, c0, c1, c2, c3⟩ := (HT1.out.next HV.out) k p HGp.out
          obtain ⟨b2, o2, rfl, e0, e1, e2, e3⟩ := (HT3.out.next HV.out) k t HG.out
          have hcore := HPc.out k
          rw [HG.out, HGp.out] at hcore
          obtain ⟨pk, pa, pi, ps⟩ := p
          obtain ⟨tk, ta, ti, ts⟩ := t
          have hcr : (pk, pi, ps) = (tk, ti, ts) := Option.some.inj hcore
          injection hcr with h1 h2
          injection h2 with h2 h3
          subst h1 h2 h3
          simp only at c0 c1 c2 c3 e0 e1 e2 e3
          clear hcore c1 e1 HG HGp
          obtain ⟨Y, HY⟩ : ∃ Y, Hid (baL ps = Y) := ⟨_, rfl⟩
          rw [HY.out] at c3 e3
          go_wp2
          go_quiet (fail)
          go_wp2
          go_roundw
          case rel => exact ⟨k + 1, by omega, by go_num, HV.out.trans ((show SameW _ (World.drewN _ _) from ⟨_, rfl⟩).below _)⟩
          case measure => simp [intOf]; omega
        · have hli2 : ¬ (k : Int) < (N : Int) := by omega
          go_wp2
          go_ret
          exact ⟨rfl, next_trans HB4.out HV.out⟩
end Go.Proofs.YtlnkeebfaninfaaGreatDoor
