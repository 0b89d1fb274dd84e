/- The walk of the law SymbolFull. -/
import Derived.Test.YthkkgjoegcbaaaaFullM
import Derived.Laws.IdiomStrings
namespace Go.Proofs.Ythkkgjoegcbaaaa
open Go.RowKit Go.Maps

theorem cv3 (k : Nat) (w : World) :
    (convert 36 9 (.slice (some ⟨w.heap.size, 0, none⟩) 3 3)).run Try.prog (w.alloc (.cells #[.int .u8 (97 + (k : Int) / 676 % 26), .int .u8 (97 + (k : Int) / 26 % 26), .int .u8 (97 + (k : Int) % 26)] 5)) =
      .ok (.string ⟨#[UInt8.ofNat (97 + k / 676 % 26), UInt8.ofNat (97 + k / 26 % 26), UInt8.ofNat (97 + k % 26)]⟩) (w.alloc (.cells #[.int .u8 (97 + (k : Int) / 676 % 26), .int .u8 (97 + (k : Int) / 26 % 26), .int .u8 (97 + (k : Int) % 26)] 5)) := by
  refine run_convert_bytes_back (P := Try.prog) _ 36 9 5 ⟨w.heap.size, 0, none⟩ 3 [UInt8.ofNat (97 + k / 676 % 26), UInt8.ofNat (97 + k / 26 % 26), UInt8.ofNat (97 + k % 26)] Try.underlying36 Try.underlying5 Try.underlying9 ?_
  have a := u8_toNat (k / 676 % 26) (Nat.mod_lt _ (by decide))
  have b := u8_toNat (k / 26 % 26) (Nat.mod_lt _ (by decide))
  have c := u8_toNat (k % 26) (Nat.mod_lt _ (by decide))
  intro j hj
  match j, hj with
  | 0, _ => simp only [List.getElem_cons_zero, a]; simp [Addr.add]
  | 1, _ => simp only [List.getElem_cons_succ, List.getElem_cons_zero, b]; simp [Addr.add]
  | 2, _ => simp only [List.getElem_cons_succ, List.getElem_cons_zero, c]; simp [Addr.add]

theorem cvx (k : Nat) (w : World) : ∃ t : ByteArray,
    (convert 36 9 (.slice (some ⟨w.heap.size, 0, none⟩) 3 3)).run Try.prog (w.alloc (.cells #[.int .u8 (97 + (k : Int) / 676 % 26), .int .u8 (97 + (k : Int) / 26 % 26), .int .u8 (97 + (k : Int) % 26)] 5)) =
      .ok (.string t) (w.alloc (.cells #[.int .u8 (97 + (k : Int) / 676 % 26), .int .u8 (97 + (k : Int) / 26 % 26), .int .u8 (97 + (k : Int) % 26)] 5)) ∧
    t.size = 3 ∧ ∃ s : ByteArray, (⟨#[110]⟩ : ByteArray) ++ t = s ∧ Hid (s = nameOf k) :=
  ⟨_, cv3 k w, rfl, _, rfl, rfl⟩

theorem new_ex (w : World) :
    Calls Try.prog 7 #[] w fun e w' => ∃ b, w.heap.size ≤ b ∧ e = .returned (.pointer (some ⟨b, 0, none⟩)) ∧ Tab w' b (.slice none 0 0) (.map none) [] ∧ Below w.heap.size w w' :=
  (new_any w).mono fun _ _ ⟨h1, h2, h3⟩ => ⟨_, Nat.le_refl _, h1, h2, h3⟩

set_option maxHeartbeats 2000000 in
set_option maxRecDepth 100000 in
theorem lawFull_walk (n : Int) (w : World) (_hw : (Lit.int .i64 n).wf = true) :
    Calls Try.prog 4 #[.int .i64 n] w fun e w' => e = .returned (.bool true) ∧ Below w.heap.size w w' := by
  by_cases h0 : n < 0
  · have d0 : decide (n < 0) = true := decide_eq_true h0
    go_enter Try.func4, Try.ntmps4
    go_wp2_with (go_at_call 6; refine (known_any _).mono ?_; rintro e w1 ⟨rfl, hb0⟩)
    go_ret
    exact ⟨rfl, hb0⟩
  · have d0 : decide (n < 0) = false := decide_eq_false h0
    by_cases h20 : 20 < n
    · have d1 : decide (20 < n) = true := decide_eq_true h20
      go_enter Try.func4, Try.ntmps4
      go_wp2_with (go_at_call 6; refine (known_any _).mono ?_; rintro e w1 ⟨rfl, hb0⟩)
      go_ret
      exact ⟨rfl, hb0⟩
    · have d1 : decide (20 < n) = false := decide_eq_false h20
      go_enter Try.func4, Try.ntmps4
      go_wp2_with fail
      refine (known_any _).mono ?_
      rintro e w1 ⟨rfl, hb0⟩
      go_wp2_with fail
      refine (new_ex w1).mono ?_
      rintro e w2 ⟨b, hb, rfl, T2, hb1⟩
      have hB : w.heap.size ≤ b := Nat.le_trans hb0.size hb
      have hbel : Below w.heap.size w w2 := hb0.trans (hb1.mono hb0.size)
      clear hb hb0 hb1
      go_wp2_with fail
      go_loopw [4] (fun i wr => ∃ (k : Nat) (v m : Value), (k : Int) ≤ 4096 + n ∧ i = .int .i64 k ∧ Tab wr b v m (names (min k 4096)) ∧ Below w.heap.size w wr) (fun i _ => (4096 + n - intOf i).toNat)
      case atStart => exact ⟨0, _, _, by omega, rfl, T2, hbel⟩
      case round =>
        obtain ⟨k, v, m, hk, rfl, T, hbr⟩ := hrel
        clear T2 hbel
        by_cases hlt : (k : Int) < 4096 + n
        · obtain ⟨t3, hcv, h3, s, hcat, HS⟩ := cvx k wr
          have hka : Below wr.heap.size wr (wr.alloc (.cells #[.int .u8 (97 + (k : Int) / 676 % 26), .int .u8 (97 + (k : Int) / 26 % 26), .int .u8 (97 + (k : Int) % 26)] 5)) := (Below.refl _ _).alloc (Nat.le_refl _) _
          have Ta : Tab (wr.alloc (.cells #[.int .u8 (97 + (k : Int) / 676 % 26), .int .u8 (97 + (k : Int) / 26 % 26), .int .u8 (97 + (k : Int) % 26)] 5)) b v m (names (min k 4096)) := T.kept fun j hj => hka.block j (T.foot hj).2
          have hba := hbr.trans (hka.mono hbr.size)
          have hgood : goodB s = true := by rw [HS.out]; exact good_name k
          by_cases h4 : k < 4096
          · have d4 : decide ((k : Int) < 4096) = true := decide_eq_true (by omega)
            rw [Nat.min_eq_left (by omega)] at Ta
            have HI := intern_new _ b v m (names k) Ta s hgood (by rw [HS.out]; exact pos_names k k (Nat.le_refl _) (by omega)) (by rw [names_length]; exact h4)
            rw [names_length, show ((k + 1 : Nat) : Int) = (k : Int) + 1 from rfl] at HI
            clear hka hgood
            go_wp2_with fail
            refine HI.mono ?_
            rintro e w3 ⟨rfl, v3, m3, T3, t3', _⟩
            have hb3 := hba.trans ((touch_below Ta t3').mono hB)
            have T3' : Tab w3 b v3 m3 (names (min (k + 1) 4096)) := by
              rw [Nat.min_eq_left (by omega), names_succ, ← HS.out]
              exact T3
            clear hcv hcat HI Ta hba T hbr T3 t3'
            go_wp2_with fail
            go_roundw
            case rel => exact ⟨k + 1, v3, m3, by omega, by go_num, T3', hb3⟩
            case measure => simp [intOf]; omega
          · have d4 : decide ((k : Int) < 4096) = false := decide_eq_false (by omega)
            have d5 : decide ((4096 : Int) ≤ (k : Int)) = true := decide_eq_true (by omega)
            have T3' : Tab (wr.alloc (.cells #[.int .u8 (97 + (k : Int) / 676 % 26), .int .u8 (97 + (k : Int) / 26 % 26), .int .u8 (97 + (k : Int) % 26)] 5)) b v m (names (min (k + 1) 4096)) := by
              rw [Nat.min_eq_right (by omega)] at Ta ⊢
              exact Ta
            rw [Nat.min_eq_right (by omega)] at Ta
            have HI := intern_full _ b v m (names 4096) Ta s hgood (by rw [HS.out]; exact pos_names 4096 k (by omega) (by omega)) (names_length _)
            clear hka hgood Ta
            go_wp2_with fail
            refine HI.mono ?_
            rintro e w3 ⟨rfl, rfl⟩
            clear hcv hcat HI T hbr
            go_wp2_with fail
            go_roundw
            case rel => exact ⟨k + 1, v, m, by omega, by go_num, T3', hba⟩
            case measure => simp [intOf]; omega
        · rw [Nat.min_eq_right (by omega)] at T
          have HI := intern_has wr b v m (names 4096) T (nameOf 0) (good_name 0) (by rw [pos_first 4096 (by omega)]; omega)
          rw [pos_first 4096 (by omega)] at HI
          have HL := len_any wr b v m (names 4096) T
          rw [names_length] at HL
          go_wp2_with fail
          refine HI.mono ?_
          rintro e w3 ⟨rfl, rfl⟩
          go_wp2_with (go_at_call 13; refine HL.mono ?_; rintro e w3 ⟨rfl, rfl⟩)
          go_ret
          exact ⟨rfl, hbr⟩

end Go.Proofs.Ythkkgjoegcbaaaa
