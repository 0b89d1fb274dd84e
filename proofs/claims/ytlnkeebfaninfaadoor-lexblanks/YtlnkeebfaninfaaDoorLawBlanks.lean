/- The walk of LexBlanks. -/
import Derived.Test.YtlnkeebfaninfaaDoorLexConv
namespace Go.Proofs.YtlnkeebfaninfaaDoor
open Go.RowKit

theorem sep_scan {T : List UInt8} (h : SepL T) (rest : List UInt8) : scanS (T ++ rest) 0 0 [] = scanS rest 0 T.length [] := by
  rw [h, Nat.zero_add]
theorem z_scan (a : Nat) : scanS [122] 0 a [] = ⟨[⟨2, a, 0, [122]⟩], 0, 0⟩ := by
  have h := S_text 2 0 [122] [] a [] (.inr (.inl ⟨rfl, rfl, by decide, by decide, by decide, by decide⟩)) gap_nil
  rw [List.append_nil, tokL_sym] at h
  rw [h]; rfl

set_option maxHeartbeats 4000000 in
set_option maxRecDepth 8000 in
theorem blanks_walk (ao : Option Addr) (n cap : Nat) (l : List UInt8) (w : World) (hl : l.length = n) (h : IsB w ao l) (_ : n ≤ cap) (h4 : Lib4 w) :
    Calls Tryd.prog 4 #[.slice ao n cap] w fun e w' => e = .returned (.bool true) ∧ Below w.heap.size w w' := by
  have H4 : Hid (Lib4 w) := h4
  have HI : Hid (IsB w ao l) := h
  have HL : Hid (l.length = n) := hl
  clear h hl h4
  go_enter Tryd.func4, Tryd.ntmps4
  go_wp2_with fail
  refine (known_any w H4.out).mono ?_
  rintro e w1 ⟨rfl, hb1⟩
  have HB1 : Hid (Below w.heap.size w w1) := hb1
  clear hb1
  by_cases hn : 200 < n
  · have hni : (200 : Int) < (n : Int) := by omega
    go_wp2
    go_ret
    exact ⟨rfl, HB1.out⟩
  have hni : ¬ (200 : Int) < (n : Int) := by omega
  go_wp2
  go_loopw [3, 4] (fun v i wr => ∃ (k : Nat) (T : List UInt8), k ≤ n ∧ i = .int .i64 k ∧ v = .string (baL T) ∧ Hid (SepL T) ∧ Hid (T.length ≤ 5 * k) ∧ Hid (Below w.heap.size w wr)) (fun _ i _ => n - (intOf i).toNat)
  case atStart => exact ⟨0, [], Nat.zero_le _, rfl, rfl, sep_nil, Nat.zero_le _, HB1⟩
  case round =>
    obtain ⟨k, T, hk, rfl, rfl, HS, HT, HW⟩ := hrel
    have hsz : (baL T).size = T.length := rfl
    obtain ⟨N, HN⟩ : ∃ N, Hid (T.length = N) := ⟨_, rfl⟩
    rw [HN.out] at hsz
    have hN : N ≤ 1000 := by have := HT.out; have := HN.out; omega
    obtain ⟨S, HSS⟩ : ∃ S, Hid (baL T = S) := ⟨_, rfl⟩
    rw [HSS.out] at hsz ⊢
    by_cases hlt : k < n
    · have hli : (k : Int) < (n : Int) := by omega
      have hkl : k < l.length := by rw [HL.out]; exact hlt
      obtain ⟨b, o, rfl, hbs⟩ := HI.out (by omega)
      obtain ⟨c, HC⟩ : ∃ c, Hid (l[k]? = some c) := ⟨_, List.getElem?_eq_getElem hkl⟩
      have c0 : (wr.alloc (.cells #[.string ⟨#[32]⟩, .string ⟨#[10]⟩, .string ⟨#[9]⟩, .string ⟨#[13]⟩, .string ⟨#[59, 120, 40, 34, 10]⟩, .string ⟨#[59, 10]⟩] 9)).cell? ⟨b, o + k, none⟩ = some (.int .u8 (c.toNat : Int)) := alloc_cell ((hbs.next HW.out).get HC.out)
      have HB : Hid (Below w.heap.size w (wr.alloc (.cells #[.string ⟨#[32]⟩, .string ⟨#[10]⟩, .string ⟨#[9]⟩, .string ⟨#[13]⟩, .string ⟨#[59, 120, 40, 34, 10]⟩, .string ⟨#[59, 10]⟩] 9))) := next_trans HW.out (alloc_below _ _)
      clear hbs
      have hr6 : c.toNat % 6 = 0 ∨ c.toNat % 6 = 1 ∨ c.toNat % 6 = 2 ∨ c.toNat % 6 = 3 ∨ c.toNat % 6 = 4 ∨ c.toNat % 6 = 5 := by omega
      rcases hr6 with hr | hr | hr | hr | hr | hr
      · have hr1 : (c.toNat : Int) % 6 = 0 := by omega
        have HX : Hid (S ++ ⟨#[32]⟩ = baL (T ++ [32])) := by
          rw [Hid, ← HSS.out]; apply ba_ext; rw [ba_app]; rfl
        have HS2 : Hid (SepL (T ++ [32])) := sep_app HS.out (sep_cons (by decide) sep_nil)
        have HT2 : Hid ((T ++ [32]).length ≤ 5 * (k + 1)) := by have := HT.out; rw [Hid, List.length_append]; simp; omega
        clear hr
        go_wp2
        go_round
        case rel => exact ⟨k + 1, T ++ [32], by omega, by go_num, by rw [HX.out], HS2, HT2, HB⟩
        case measure => simp [intOf]; omega
      · have hr1 : (c.toNat : Int) % 6 = 1 := by omega
        have HX : Hid (S ++ ⟨#[10]⟩ = baL (T ++ [10])) := by
          rw [Hid, ← HSS.out]; apply ba_ext; rw [ba_app]; rfl
        have HS2 : Hid (SepL (T ++ [10])) := sep_app HS.out (sep_cons (by decide) sep_nil)
        have HT2 : Hid ((T ++ [10]).length ≤ 5 * (k + 1)) := by have := HT.out; rw [Hid, List.length_append]; simp; omega
        clear hr
        go_wp2
        go_round
        case rel => exact ⟨k + 1, T ++ [10], by omega, by go_num, by rw [HX.out], HS2, HT2, HB⟩
        case measure => simp [intOf]; omega
      · have hr1 : (c.toNat : Int) % 6 = 2 := by omega
        have HX : Hid (S ++ ⟨#[9]⟩ = baL (T ++ [9])) := by
          rw [Hid, ← HSS.out]; apply ba_ext; rw [ba_app]; rfl
        have HS2 : Hid (SepL (T ++ [9])) := sep_app HS.out (sep_cons (by decide) sep_nil)
        have HT2 : Hid ((T ++ [9]).length ≤ 5 * (k + 1)) := by have := HT.out; rw [Hid, List.length_append]; simp; omega
        clear hr
        go_wp2
        go_round
        case rel => exact ⟨k + 1, T ++ [9], by omega, by go_num, by rw [HX.out], HS2, HT2, HB⟩
        case measure => simp [intOf]; omega
      · have hr1 : (c.toNat : Int) % 6 = 3 := by omega
        have HX : Hid (S ++ ⟨#[13]⟩ = baL (T ++ [13])) := by
          rw [Hid, ← HSS.out]; apply ba_ext; rw [ba_app]; rfl
        have HS2 : Hid (SepL (T ++ [13])) := sep_app HS.out (sep_cons (by decide) sep_nil)
        have HT2 : Hid ((T ++ [13]).length ≤ 5 * (k + 1)) := by have := HT.out; rw [Hid, List.length_append]; simp; omega
        clear hr
        go_wp2
        go_round
        case rel => exact ⟨k + 1, T ++ [13], by omega, by go_num, by rw [HX.out], HS2, HT2, HB⟩
        case measure => simp [intOf]; omega
      · have hr1 : (c.toNat : Int) % 6 = 4 := by omega
        have HX : Hid (S ++ ⟨#[59, 120, 40, 34, 10]⟩ = baL (T ++ [59, 120, 40, 34, 10])) := by
          rw [Hid, ← HSS.out]; apply ba_ext; rw [ba_app]; rfl
        have HS2 : Hid (SepL (T ++ [59, 120, 40, 34, 10])) := sep_app HS.out (sep_line (r := [120, 40, 34]) (by decide))
        have HT2 : Hid ((T ++ [59, 120, 40, 34, 10]).length ≤ 5 * (k + 1)) := by have := HT.out; rw [Hid, List.length_append]; simp; omega
        clear hr
        go_wp2
        go_round
        case rel => exact ⟨k + 1, T ++ [59, 120, 40, 34, 10], by omega, by go_num, by rw [HX.out], HS2, HT2, HB⟩
        case measure => simp [intOf]; omega
      · have hr1 : (c.toNat : Int) % 6 = 5 := by omega
        have HX : Hid (S ++ ⟨#[59, 10]⟩ = baL (T ++ [59, 10])) := by
          rw [Hid, ← HSS.out]; apply ba_ext; rw [ba_app]; rfl
        have HS2 : Hid (SepL (T ++ [59, 10])) := sep_app HS.out (sep_line (r := []) (by decide))
        have HT2 : Hid ((T ++ [59, 10]).length ≤ 5 * (k + 1)) := by have := HT.out; rw [Hid, List.length_append]; simp; omega
        clear hr
        go_wp2
        go_round
        case rel => exact ⟨k + 1, T ++ [59, 10], by omega, by go_num, by rw [HX.out], HS2, HT2, HB⟩
        case measure => simp [intOf]; omega
    · have hli : ¬ (k : Int) < (n : Int) := by omega
      have HX1 : Hid (S ++ ⟨#[59, 32, 116, 104, 101, 32, 101, 110, 100]⟩ = baL (T ++ [59, 32, 116, 104, 101, 32, 101, 110, 100])) := by
        rw [Hid, ← HSS.out]; apply ba_ext; rw [ba_app]; rfl
      have HX2 : Hid (S ++ ⟨#[122]⟩ = baL (T ++ [122])) := by
        rw [Hid, ← HSS.out]; apply ba_ext; rw [ba_app]; rfl
      have HZ1 : Hid ((S ++ ⟨#[59, 32, 116, 104, 101, 32, 101, 110, 100]⟩).size = N + 9) := by
        rw [Hid, HX1.out, baL_size, List.length_append, HN.out]; rfl
      have HZ2 : Hid ((S ++ ⟨#[122]⟩).size = N + 1) := by
        rw [Hid, HX2.out, baL_size, List.length_append, HN.out]; rfl
      have HQ0 : Hid (scanS T 0 0 [] = ⟨[], 0, 0⟩) := by
        have h := sep_scan HS.out []
        rw [List.append_nil] at h
        rw [Hid, h]; rfl
      have HQ1 : Hid (scanS (T ++ [59, 32, 116, 104, 101, 32, 101, 110, 100]) 0 0 [] = ⟨[], 0, 0⟩) := by
        rw [Hid, sep_scan HS.out]; exact line_end (by decide) _ _
      have HQ2 : Hid (scanS (T ++ [122]) 0 0 [] = ⟨[⟨2, N, 0, [122]⟩], 0, 0⟩) := by
        rw [Hid, sep_scan HS.out, HN.out]; exact z_scan N
      have hcv := conv_str S wr
      go_wp2_with fail
      refine (scan_conv S T [] wr N hsz HSS.out.symm (by have := HN.out; omega) (H4.out.next HW.out).max HQ0.out).mono ?_
      rintro e w2 ⟨⟨to2, tc2, rfl, _⟩, hb2⟩
      have HB2 : Hid (Below w.heap.size w w2) := next_trans HW.out hb2
      clear hb2 hcv
      have hcv2 := conv_str (S ++ ⟨#[59, 32, 116, 104, 101, 32, 101, 110, 100]⟩) w2
      go_wp2_with fail
      refine (scan_conv (S ++ ⟨#[59, 32, 116, 104, 101, 32, 101, 110, 100]⟩) _ [] w2 (N + 9) HZ1.out HX1.out (by rw [List.length_append, HN.out]; simp; omega) (H4.out.next HB2.out).max HQ1.out).mono ?_
      rintro e w3 ⟨⟨to3, tc3, rfl, _⟩, hb3⟩
      have HB3 : Hid (Below w.heap.size w w3) := next_trans HB2.out hb3
      clear hb3 hcv2
      have hcv3 := conv_str (S ++ ⟨#[122]⟩) w3
      go_wp2_with fail
      refine (scan_conv (S ++ ⟨#[122]⟩) _ [⟨2, N, 0, [122]⟩] w3 (N + 1) HZ2.out HX2.out (by rw [List.length_append, HN.out]; simp; omega) (H4.out.next HB3.out).max HQ2.out).mono ?_
      rintro e w4 ⟨⟨to4, tc4, rfl, ht4⟩, hb4⟩
      have HB4 : Hid (Below w.heap.size w w4) := next_trans HB3.out hb4
      obtain ⟨b4, o4, rfl, t0, t1, t2, t3⟩ := ht4 0 _ rfl
      simp only [Nat.zero_mul, Nat.add_zero] at t0 t1 t2 t3
      clear hb4 hcv3 t0 t2 t3
      go_wp2
      go_ret
      exact ⟨rfl, HB4.out⟩
end Go.Proofs.YtlnkeebfaninfaaDoor
