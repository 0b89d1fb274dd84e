/- The walk of LexLengths. -/
import Derived.Test.YtlnkeebfaninfaaGreatDoorLenMath
import Derived.Test.YtlnkeebfaninfaaGreatDoorRlexScan
namespace Go.Proofs.YtlnkeebfaninfaaGreatDoor
open Go.RowKit

theorem rscan_conv (X : ByteArray) (T : List UInt8) (R : Out) (w : World) (N : Nat) (hN : X.size = N) (hX : X = baL T) (hn : T.length ≤ 65536) (hs : scanS T 0 0 [] = R) :
    Calls Tryz.prog 8 #[.slice (some ⟨w.heap.size, 0, none⟩) N (grownCap w N 0 5)] (Lib.bytesWorld w 5 X) fun e w' => (∃ to tc, e = .returned (.tuple #[.slice to R.l.length tc, .int .i64 (R.a : Int), .int .i64 R.e]) ∧ IsToks w' to R.l) ∧ Below w.heap.size w w' := by
  subst hN
  subst hX
  refine (rscan_any (some ⟨w.heap.size, 0, none⟩) (baL T).size _ T _ rfl (conv_is T w).isB hn (grownCap_ge _ _ _ _)).mono ?_
  rintro e w1 ⟨hb1, v, rfl, ho⟩
  rw [show scanQ T 0 [] = R from hs] at ho ⊢
  obtain ⟨to, tc, rfl, ht⟩ := own_toks ho
  exact ⟨⟨to, tc, rfl, ht⟩, next_trans (conv_bel _ _) hb1⟩

set_option maxHeartbeats 4000000 in
set_option maxRecDepth 8000 in
theorem lengths_walk (m a : Int) (w : World) (_ : inB m = true) (ha : 0 ≤ a ∧ a < 256) (h4 : Lib4 w) :
    Calls Tryz.prog 5 #[.int .i64 m, .int .u8 a] w fun e w' => e = .returned (.bool true) ∧ Below w.heap.size w w' := by
  have H4 : Hid (Lib4 w) := h4
  clear h4
  go_enter Tryz.func5, Tryz.ntmps5
  go_wp2_with fail
  refine (known_any w H4.out).mono ?_
  rintro e w1 ⟨rfl, hb1⟩
  have HB1 : Hid (Below w.heap.size w w1) := hb1
  clear hb1
  by_cases h1 : m < 1
  · go_wp2
    go_ret
    exact ⟨rfl, HB1.out⟩
  by_cases h2 : 1100 < m
  · go_wp2
    go_ret
    exact ⟨rfl, HB1.out⟩
  obtain ⟨n, rfl⟩ : ∃ n : Nat, m = (n : Int) := ⟨m.toNat, by omega⟩
  have hn1 : 1 ≤ n := by omega
  have hn2 : n ≤ 1100 := by omega
  go_wp2
  go_loop [5, 6] (fun v i => ∃ k : Nat, k ≤ n ∧ i = .int .i64 k ∧ v = .string (baL (kk k))) (fun _ i => n - (intOf i).toNat)
  case atStart => exact ⟨0, Nat.zero_le _, rfl, rfl⟩
  case round =>
    obtain ⟨k, hk, rfl, rfl⟩ := hrel
    have hsz : (baL (kk k)).size = k := kk_len k
    by_cases hlt : k < n
    · have hli : (k : Int) < (n : Int) := by omega
      have HK : Hid (baL (kk k) ++ ⟨#[107]⟩ = baL (kk (k + 1))) := kk_ba k
      go_wp2
      go_round
      case rel => exact ⟨k + 1, by omega, by go_num, by rw [HK.out]⟩
      case measure => simp [intOf]; omega
    · have hli : ¬ (k : Int) < (n : Int) := by omega
      obtain rfl : n = k := by omega
      obtain ⟨wr, HWr, HW⟩ : ∃ wr, Hid (w1 = wr) ∧ Hid (Below w.heap.size w wr) := ⟨_, rfl, HB1⟩
      obtain ⟨S, HS⟩ : ∃ S, Hid (baL (kk n) = S) := ⟨_, rfl⟩
      rw [HS.out] at hsz ⊢
      rw [HWr.out]
      have hr4 : a.tmod 4 = 0 ∨ a.tmod 4 = 1 ∨ a.tmod 4 = 2 ∨ a.tmod 4 = 3 := by
        have := Int.tmod_nonneg 4 ha.1
        have := Int.tmod_lt_of_pos a (b := 4) (by omega)
        omega
      rcases hr4 with hr | hr | hr | hr
      · have hr' : a % 4 = 0 := by rw [← Int.tmod_eq_emod_of_nonneg ha.1]; exact hr
        have d1 : ((a.tmod 4) == 1) = false := by rw [hr]; rfl
        have e1 : ((a % 4) == 1) = false := by rw [hr']; rfl
        have d2 : ((a.tmod 4) == 2) = false := by rw [hr]; rfl
        have e2 : ((a % 4) == 2) = false := by rw [hr']; rfl
        have d3 : ((a.tmod 4) == 3) = false := by rw [hr]; rfl
        have e3 : ((a % 4) == 3) = false := by rw [hr']; rfl
        clear hr hr'
        by_cases hbig : 40 < n
        · have hm : (40 : Int) < (n : Int) := by omega
          have HX : Hid (S = baL (kT 0 n)) := by
            rw [Hid, ← HS.out]; rfl
          have HXs : Hid (S.size = n) := by
            rw [Hid]; exact hsz
          have hcv := conv_str S wr
          go_wp2_with fail
          refine (scan_conv_no S (kT 0 n) 0 4 wr (n) HXs.out HX.out (by have := kT_len 0 n; omega) (H4.out.next HW.out).max (kT_no 0 n (by omega) (by show 40 < n; omega)) (by decide)).mono ?_
          rintro e w2 ⟨⟨B, rfl⟩, hb2⟩
          have HB2 : Hid (Below w.heap.size w w2) := next_trans HW.out hb2
          clear hb2 hcv
          have hcv2 := conv_str S w2
          go_wp2_with fail
          refine (rscan_conv S (kT 0 n) ⟨[], 0, 4⟩ w2 (n) HXs.out HX.out (by have := kT_len 0 n; omega) (kT_no 0 n (by omega) (by show 40 < n; omega))).mono ?_
          rintro e w3 ⟨⟨to2, tc2, rfl, _⟩, hb3⟩
          have HB3 : Hid (Below w.heap.size w w3) := next_trans HB2.out hb3
          clear hb3 hcv2
          go_wp2
          go_ret
          exact ⟨rfl, HB3.out⟩
        · have hm : ¬ (40 : Int) < (n : Int) := by omega
          have HX : Hid (S = baL (kT 0 n)) := by
            rw [Hid, ← HS.out]; rfl
          have HXs : Hid (S.size = n) := by
            rw [Hid]; exact hsz
          have hcv := conv_str S wr
          go_wp2_with fail
          refine (scan_conv S (kT 0 n) [⟨kKind 0, 0, 0, kk n⟩] wr (n) HXs.out HX.out (by have := kT_len 0 n; omega) (H4.out.next HW.out).max (kT_ok 0 n (by omega) hn1 (by show n ≤ 40; omega))).mono ?_
          rintro e w2 ⟨⟨to, tc, rfl, _⟩, hb2⟩
          have HB2 : Hid (Below w.heap.size w w2) := next_trans HW.out hb2
          clear hb2 hcv
          have hcv2 := conv_str S w2
          go_wp2_with fail
          refine (rscan_conv S (kT 0 n) ⟨[⟨kKind 0, 0, 0, kk n⟩], 0, 0⟩ w2 (n) HXs.out HX.out (by have := kT_len 0 n; omega) (kT_ok 0 n (by omega) hn1 (by show n ≤ 40; omega))).mono ?_
          rintro e w3 ⟨⟨to2, tc2, rfl, _⟩, hb3⟩
          have HB3 : Hid (Below w.heap.size w w3) := next_trans HB2.out hb3
          clear hb3 hcv2
          go_wp2
          go_ret
          exact ⟨rfl, HB3.out⟩
      · have hr' : a % 4 = 1 := by rw [← Int.tmod_eq_emod_of_nonneg ha.1]; exact hr
        have d1 : ((a.tmod 4) == 1) = true := by rw [hr]; rfl
        have e1 : ((a % 4) == 1) = true := by rw [hr']; rfl
        clear hr hr'
        by_cases hbig : 40 < n
        · have hm : (40 : Int) < (n : Int) := by omega
          have HX : Hid ((⟨#[63]⟩ ++ S) = baL (kT 1 n)) := by
            rw [Hid, ← HS.out]; apply ba_ext; rw [ba_app]; rfl
          have HXs : Hid ((⟨#[63]⟩ ++ S).size = 1 + n) := by
            rw [Hid]; rw [HX.out]; show (kk n).length + 1 = 1 + n; rw [kk_len]; omega
          have hcv := conv_str (⟨#[63]⟩ ++ S) wr
          go_wp2_with fail
          refine (scan_conv_no (⟨#[63]⟩ ++ S) (kT 1 n) 0 4 wr (1 + n) HXs.out HX.out (by have := kT_len 1 n; omega) (H4.out.next HW.out).max (kT_no 1 n (by omega) (by show 40 < n; omega)) (by decide)).mono ?_
          rintro e w2 ⟨⟨B, rfl⟩, hb2⟩
          have HB2 : Hid (Below w.heap.size w w2) := next_trans HW.out hb2
          clear hb2 hcv
          have hcv2 := conv_str (⟨#[63]⟩ ++ S) w2
          go_wp2_with fail
          refine (rscan_conv (⟨#[63]⟩ ++ S) (kT 1 n) ⟨[], 0, 4⟩ w2 (1 + n) HXs.out HX.out (by have := kT_len 1 n; omega) (kT_no 1 n (by omega) (by show 40 < n; omega))).mono ?_
          rintro e w3 ⟨⟨to2, tc2, rfl, _⟩, hb3⟩
          have HB3 : Hid (Below w.heap.size w w3) := next_trans HB2.out hb3
          clear hb3 hcv2
          go_wp2
          go_ret
          exact ⟨rfl, HB3.out⟩
        · have hm : ¬ (40 : Int) < (n : Int) := by omega
          have HX : Hid ((⟨#[63]⟩ ++ S) = baL (kT 1 n)) := by
            rw [Hid, ← HS.out]; apply ba_ext; rw [ba_app]; rfl
          have HXs : Hid ((⟨#[63]⟩ ++ S).size = 1 + n) := by
            rw [Hid]; rw [HX.out]; show (kk n).length + 1 = 1 + n; rw [kk_len]; omega
          have hcv := conv_str (⟨#[63]⟩ ++ S) wr
          go_wp2_with fail
          refine (scan_conv (⟨#[63]⟩ ++ S) (kT 1 n) [⟨kKind 1, 0, 0, kk n⟩] wr (1 + n) HXs.out HX.out (by have := kT_len 1 n; omega) (H4.out.next HW.out).max (kT_ok 1 n (by omega) hn1 (by show n ≤ 40; omega))).mono ?_
          rintro e w2 ⟨⟨to, tc, rfl, _⟩, hb2⟩
          have HB2 : Hid (Below w.heap.size w w2) := next_trans HW.out hb2
          clear hb2 hcv
          have hcv2 := conv_str (⟨#[63]⟩ ++ S) w2
          go_wp2_with fail
          refine (rscan_conv (⟨#[63]⟩ ++ S) (kT 1 n) ⟨[⟨kKind 1, 0, 0, kk n⟩], 0, 0⟩ w2 (1 + n) HXs.out HX.out (by have := kT_len 1 n; omega) (kT_ok 1 n (by omega) hn1 (by show n ≤ 40; omega))).mono ?_
          rintro e w3 ⟨⟨to2, tc2, rfl, _⟩, hb3⟩
          have HB3 : Hid (Below w.heap.size w w3) := next_trans HB2.out hb3
          clear hb3 hcv2
          go_wp2
          go_ret
          exact ⟨rfl, HB3.out⟩
      · have hr' : a % 4 = 2 := by rw [← Int.tmod_eq_emod_of_nonneg ha.1]; exact hr
        have d1 : ((a.tmod 4) == 1) = false := by rw [hr]; rfl
        have e1 : ((a % 4) == 1) = false := by rw [hr']; rfl
        have d2 : ((a.tmod 4) == 2) = true := by rw [hr]; rfl
        have e2 : ((a % 4) == 2) = true := by rw [hr']; rfl
        clear hr hr'
        by_cases hbig : 40 < n
        · have hm : (40 : Int) < (n : Int) := by omega
          have HX : Hid ((⟨#[63, 42]⟩ ++ S ++ ⟨#[42]⟩) = baL (kT 2 n)) := by
            rw [Hid, ← HS.out]; apply ba_ext; rw [ba_app, ba_app]; rfl
          have HXs : Hid ((⟨#[63, 42]⟩ ++ S ++ ⟨#[42]⟩).size = 2 + n + 1) := by
            rw [Hid]; rw [HX.out]; show (kk n ++ [42]).length + 1 + 1 = 2 + n + 1; rw [List.length_append, kk_len]; simp; omega
          have hcv := conv_str (⟨#[63, 42]⟩ ++ S ++ ⟨#[42]⟩) wr
          go_wp2_with fail
          refine (scan_conv_no (⟨#[63, 42]⟩ ++ S ++ ⟨#[42]⟩) (kT 2 n) 0 4 wr (2 + n + 1) HXs.out HX.out (by have := kT_len 2 n; omega) (H4.out.next HW.out).max (kT_no 2 n (by omega) (by show 40 < n; omega)) (by decide)).mono ?_
          rintro e w2 ⟨⟨B, rfl⟩, hb2⟩
          have HB2 : Hid (Below w.heap.size w w2) := next_trans HW.out hb2
          clear hb2 hcv
          have hcv2 := conv_str (⟨#[63, 42]⟩ ++ S ++ ⟨#[42]⟩) w2
          go_wp2_with fail
          refine (rscan_conv (⟨#[63, 42]⟩ ++ S ++ ⟨#[42]⟩) (kT 2 n) ⟨[], 0, 4⟩ w2 (2 + n + 1) HXs.out HX.out (by have := kT_len 2 n; omega) (kT_no 2 n (by omega) (by show 40 < n; omega))).mono ?_
          rintro e w3 ⟨⟨to2, tc2, rfl, _⟩, hb3⟩
          have HB3 : Hid (Below w.heap.size w w3) := next_trans HB2.out hb3
          clear hb3 hcv2
          go_wp2
          go_ret
          exact ⟨rfl, HB3.out⟩
        · have hm : ¬ (40 : Int) < (n : Int) := by omega
          have HX : Hid ((⟨#[63, 42]⟩ ++ S ++ ⟨#[42]⟩) = baL (kT 2 n)) := by
            rw [Hid, ← HS.out]; apply ba_ext; rw [ba_app, ba_app]; rfl
          have HXs : Hid ((⟨#[63, 42]⟩ ++ S ++ ⟨#[42]⟩).size = 2 + n + 1) := by
            rw [Hid]; rw [HX.out]; show (kk n ++ [42]).length + 1 + 1 = 2 + n + 1; rw [List.length_append, kk_len]; simp; omega
          have hcv := conv_str (⟨#[63, 42]⟩ ++ S ++ ⟨#[42]⟩) wr
          go_wp2_with fail
          refine (scan_conv (⟨#[63, 42]⟩ ++ S ++ ⟨#[42]⟩) (kT 2 n) [⟨kKind 2, 0, 0, kk n⟩] wr (2 + n + 1) HXs.out HX.out (by have := kT_len 2 n; omega) (H4.out.next HW.out).max (kT_ok 2 n (by omega) hn1 (by show n ≤ 40; omega))).mono ?_
          rintro e w2 ⟨⟨to, tc, rfl, _⟩, hb2⟩
          have HB2 : Hid (Below w.heap.size w w2) := next_trans HW.out hb2
          clear hb2 hcv
          have hcv2 := conv_str (⟨#[63, 42]⟩ ++ S ++ ⟨#[42]⟩) w2
          go_wp2_with fail
          refine (rscan_conv (⟨#[63, 42]⟩ ++ S ++ ⟨#[42]⟩) (kT 2 n) ⟨[⟨kKind 2, 0, 0, kk n⟩], 0, 0⟩ w2 (2 + n + 1) HXs.out HX.out (by have := kT_len 2 n; omega) (kT_ok 2 n (by omega) hn1 (by show n ≤ 40; omega))).mono ?_
          rintro e w3 ⟨⟨to2, tc2, rfl, _⟩, hb3⟩
          have HB3 : Hid (Below w.heap.size w w3) := next_trans HB2.out hb3
          clear hb3 hcv2
          go_wp2
          go_ret
          exact ⟨rfl, HB3.out⟩
      · have hr' : a % 4 = 3 := by rw [← Int.tmod_eq_emod_of_nonneg ha.1]; exact hr
        have d1 : ((a.tmod 4) == 1) = false := by rw [hr]; rfl
        have e1 : ((a % 4) == 1) = false := by rw [hr']; rfl
        have d2 : ((a.tmod 4) == 2) = false := by rw [hr]; rfl
        have e2 : ((a % 4) == 2) = false := by rw [hr']; rfl
        have d3 : ((a.tmod 4) == 3) = true := by rw [hr]; rfl
        have e3 : ((a % 4) == 3) = true := by rw [hr']; rfl
        clear hr hr'
        by_cases hbig : 1000 < n
        · have hm : (1000 : Int) < (n : Int) := by omega
          have HX : Hid ((⟨#[34]⟩ ++ S ++ ⟨#[34]⟩) = baL (kT 3 n)) := by
            rw [Hid, ← HS.out]; apply ba_ext; rw [ba_app, ba_app]; rfl
          have HXs : Hid ((⟨#[34]⟩ ++ S ++ ⟨#[34]⟩).size = 1 + n + 1) := by
            rw [Hid]; rw [HX.out]; show (kk n ++ [34]).length + 1 = 1 + n + 1; rw [List.length_append, kk_len]; simp; omega
          have hcv := conv_str (⟨#[34]⟩ ++ S ++ ⟨#[34]⟩) wr
          go_wp2_with fail
          refine (scan_conv_no (⟨#[34]⟩ ++ S ++ ⟨#[34]⟩) (kT 3 n) 0 4 wr (1 + n + 1) HXs.out HX.out (by have := kT_len 3 n; omega) (H4.out.next HW.out).max (kT_no 3 n (by omega) (by show 1000 < n; omega)) (by decide)).mono ?_
          rintro e w2 ⟨⟨B, rfl⟩, hb2⟩
          have HB2 : Hid (Below w.heap.size w w2) := next_trans HW.out hb2
          clear hb2 hcv
          have hcv2 := conv_str (⟨#[34]⟩ ++ S ++ ⟨#[34]⟩) w2
          go_wp2_with fail
          refine (rscan_conv (⟨#[34]⟩ ++ S ++ ⟨#[34]⟩) (kT 3 n) ⟨[], 0, 4⟩ w2 (1 + n + 1) HXs.out HX.out (by have := kT_len 3 n; omega) (kT_no 3 n (by omega) (by show 1000 < n; omega))).mono ?_
          rintro e w3 ⟨⟨to2, tc2, rfl, _⟩, hb3⟩
          have HB3 : Hid (Below w.heap.size w w3) := next_trans HB2.out hb3
          clear hb3 hcv2
          go_wp2
          go_ret
          exact ⟨rfl, HB3.out⟩
        · have hm : ¬ (1000 : Int) < (n : Int) := by omega
          have HX : Hid ((⟨#[34]⟩ ++ S ++ ⟨#[34]⟩) = baL (kT 3 n)) := by
            rw [Hid, ← HS.out]; apply ba_ext; rw [ba_app, ba_app]; rfl
          have HXs : Hid ((⟨#[34]⟩ ++ S ++ ⟨#[34]⟩).size = 1 + n + 1) := by
            rw [Hid]; rw [HX.out]; show (kk n ++ [34]).length + 1 = 1 + n + 1; rw [List.length_append, kk_len]; simp; omega
          have hcv := conv_str (⟨#[34]⟩ ++ S ++ ⟨#[34]⟩) wr
          go_wp2_with fail
          refine (scan_conv (⟨#[34]⟩ ++ S ++ ⟨#[34]⟩) (kT 3 n) [⟨kKind 3, 0, 0, kk n⟩] wr (1 + n + 1) HXs.out HX.out (by have := kT_len 3 n; omega) (H4.out.next HW.out).max (kT_ok 3 n (by omega) hn1 (by show n ≤ 1000; omega))).mono ?_
          rintro e w2 ⟨⟨to, tc, rfl, _⟩, hb2⟩
          have HB2 : Hid (Below w.heap.size w w2) := next_trans HW.out hb2
          clear hb2 hcv
          have hcv2 := conv_str (⟨#[34]⟩ ++ S ++ ⟨#[34]⟩) w2
          go_wp2_with fail
          refine (rscan_conv (⟨#[34]⟩ ++ S ++ ⟨#[34]⟩) (kT 3 n) ⟨[⟨kKind 3, 0, 0, kk n⟩], 0, 0⟩ w2 (1 + n + 1) HXs.out HX.out (by have := kT_len 3 n; omega) (kT_ok 3 n (by omega) hn1 (by show n ≤ 1000; omega))).mono ?_
          rintro e w3 ⟨⟨to2, tc2, rfl, _⟩, hb3⟩
          have HB3 : Hid (Below w.heap.size w w3) := next_trans HB2.out hb3
          clear hb3 hcv2
          go_wp2
          go_ret
          exact ⟨rfl, HB3.out⟩
end Go.Proofs.YtlnkeebfaninfaaGreatDoor
