/- The contract of the reference's one: globals, words; all of it. -/
import Derived.Test.YtlnkeebfaninfaaGreatDoorRlexOne
namespace Go.Proofs.YtlnkeebfaninfaaGreatDoor
open Go.RowKit

set_option maxHeartbeats 4000000 in
set_option maxRecDepth 4000 in
theorem rone_glob (b o n cap p : Nat) (l : List UInt8) (c : UInt8) (w : World) (hl : l.length = n) (hn : n ≤ 100000) (hcap : n ≤ cap) (hb : Bs w b o l) (hc : l[p]? = some c) (h63 : c.toNat = 63) (d : UInt8) (hd : l[p + 1]? = some d) (h42 : d.toNat = 42) (h1 : p + 1 < n) :
    Calls Tryz.prog 17 #[.slice (some ⟨b, o, none⟩) n cap, .int .i64 (p : Int)] w fun e w' => ROne p (globR (l.drop (p + 2))) e ∧ Below w.heap.size w w' := by
  have hpi : (p : Int) < (n : Int) := by omega
  have c0 := hb.get hc
  have c1 : ((w.alloc (.cells #[.int .i64 0, .int .i64 0, .int .i64 0, .string ⟨#[]⟩] 41)).alloc (.cells #[.int .i64 0, .int .i64 (p : Int), .int .i64 0, .string ⟨#[]⟩] 41)).cell? ⟨b, o + p, none⟩ = some (.int .u8 (c.toNat : Int)) := alloc_cell (alloc_cell c0)
  have HB0 : Hid (Below w.heap.size w ((w.alloc (.cells #[.int .i64 0, .int .i64 0, .int .i64 0, .string ⟨#[]⟩] 41)).alloc (.cells #[.int .i64 0, .int .i64 (p : Int), .int .i64 0, .string ⟨#[]⟩] 41))) := next_trans (alloc_below _ _) (alloc_below _ _)
  have HI : Hid (Bs w b o l) := hb
  have HL : Hid (l.length = n) := hl
  have d40 : ((c.toNat : Int) == 40) = false := by simp; omega
  have d41 : ((c.toNat : Int) == 41) = false := by simp; omega
  have d126 : ((c.toNat : Int) == 126) = false := by simp; omega
  have d34 : ((c.toNat : Int) == 34) = false := by simp; omega
  have d63 : ((c.toNat : Int) == 63) = true := by simp; omega
  have hli : (p : Int) + 1 < (n : Int) := by omega
  have c2 : ((w.alloc (.cells #[.int .i64 0, .int .i64 0, .int .i64 0, .string ⟨#[]⟩] 41)).alloc (.cells #[.int .i64 0, .int .i64 (p : Int), .int .i64 0, .string ⟨#[]⟩] 41)).cell? ⟨b, o + (p + 1), none⟩ = some (.int .u8 (d.toNat : Int)) := alloc_cell (alloc_cell (hb.get hd))
  have d42 : ((d.toNat : Int) == 42) = true := by simp; omega
  have HT : Hid (∀ w' : World, Below w.heap.size w w' → Calls Tryz.prog 31 #[.slice (some ⟨b, o, none⟩) n cap, .int .i64 ((p : Int) + 2)] w' fun e w2 => e = .returned (.tuple #[.string (baL (nameS (l.drop (p + 2)))), .int .i64 (nameN (p + 2) (l.drop (p + 2))), .int .i64 (nameE (l.drop (p + 2)))]) ∧ w2 = w') :=
    fun w' hb => rname_any (some ⟨b, o, none⟩) n cap (p + 2) _ l w' (by omega) HL.out (HI.out.next hb).isB hn hcap (by omega)
  have hzu := run_le partB (l.drop (p + 2))
  rw [List.length_drop, hl] at hzu
  clear hb c0 hc hl h63 hd h42
  obtain ⟨u, Hu⟩ : ∃ u, Hid (l.drop (p + 2) = u) := ⟨_, rfl⟩
  rw [Hu.out] at HT hzu ⊢
  rcases nameE_cases u with hE | hE | ⟨hE, hz, hS⟩
  · have HM : Hid (globR u = badR 4) := glob_bad hE (by decide)
    rw [nameS_no hE (by decide), nameN_no _ hE (by decide), hE] at HT
    clear hE
    go_enter Tryz.func17, Tryz.ntmps17
    go_wp2_with fail
    refine (HT.out _ HB0.out).mono ?_
    rintro e w1 ⟨rfl, rfl⟩
    go_wp2
    rw [HM.out]
    exact bodyPost_ret (v := .tuple #[.agg #[.int .i64 (7), .int .i64 (p), .int .i64 (0), .string (baL [])], .int .i64 (1), .int .i64 4]) (by simp [results, Tryz.results17, go_sem]) rfl ⟨rone_bad p 4 (by decide) 7 0 _ _, next_trans (alloc_below _ _) (alloc_below _ _)⟩
  · have HM : Hid (globR u = badR 2) := glob_bad hE (by decide)
    rw [nameS_no hE (by decide), nameN_no _ hE (by decide), hE] at HT
    clear hE
    go_enter Tryz.func17, Tryz.ntmps17
    go_wp2_with fail
    refine (HT.out _ HB0.out).mono ?_
    rintro e w1 ⟨rfl, rfl⟩
    go_wp2
    rw [HM.out]
    exact bodyPost_ret (v := .tuple #[.agg #[.int .i64 (7), .int .i64 (p), .int .i64 (0), .string (baL [])], .int .i64 (1), .int .i64 2]) (by simp [results, Tryz.results17, go_sem]) rfl ⟨rone_bad p 2 (by decide) 7 0 _ _, next_trans (alloc_below _ _) (alloc_below _ _)⟩
  · have hg0 := glob_no hE
    have hg1 := glob_ok hE
    rw [hS, nameN_ok _ hE, hE] at HT
    obtain ⟨z, HZ⟩ : ∃ z, Hid (nameZ u = z) := ⟨_, rfl⟩
    rw [show runN partB u = z from HZ.out] at hzu
    rw [HZ.out] at HT hg0 hg1 hz
    obtain ⟨N, HN⟩ : ∃ N, Hid (p + 2 + z = N) := ⟨_, rfl⟩
    rw [HN.out] at HT
    have hNn : N ≤ n := by rw [← HN.out]; omega
    clear hE hS
    by_cases he : N = n
    · have hei : ((N : Int) == (n : Int)) = true := by simp; omega
      have HM : Hid (globR u = badR 2) := hg0 (star_no (by rw [← Hu.out, List.length_drop, List.length_drop, HL.out]; have := HN.out; omega))
      clear hg0 hg1
      go_enter Tryz.func17, Tryz.ntmps17
      go_wp2_with fail
      refine (HT.out _ HB0.out).mono ?_
      rintro e w1 ⟨rfl, rfl⟩
      go_wp2
      rw [HM.out]
      exact bodyPost_ret (v := .tuple #[.agg #[.int .i64 (7), .int .i64 (p), .int .i64 (0), .string (baL (u.take z))], .int .i64 ((n : Int) + 1), .int .i64 2]) (by simp [results, Tryz.results17, go_sem]) rfl ⟨rone_bad p 2 (by decide) 7 0 _ _, next_trans (alloc_below _ _) (alloc_below _ _)⟩
    · have hei : ((N : Int) == (n : Int)) = false := by simp; omega
      have hlt : (N : Int) < (n : Int) := by omega
      have hkl : N < l.length := by rw [HL.out]; omega
      obtain ⟨x, HX⟩ : ∃ x, Hid (l[N]? = some x) := ⟨_, List.getElem?_eq_getElem hkl⟩
      have hst : starL (u.drop z) = decide (x.toNat = 42) := by
        rw [← Hu.out, List.drop_drop, HN.out, drop_at HX.out]; rfl
      have c3 : ((w.alloc (.cells #[.int .i64 0, .int .i64 0, .int .i64 0, .string ⟨#[]⟩] 41)).alloc (.cells #[.int .i64 0, .int .i64 (p : Int), .int .i64 0, .string ⟨#[]⟩] 41)).cell? ⟨b, o + N, none⟩ = some (.int .u8 (x.toNat : Int)) := alloc_cell (alloc_cell (HI.out.get HX.out))
      by_cases hx : x.toNat = 42
      · have dx : ((x.toNat : Int) == 42) = true := by simp; omega
        have HM : Hid (globR u = okR 7 0 (u.take z) (2 + z + 1)) := hg1 (by rw [hst]; simpa using hx)
        clear hg0 hg1 hst hx
        go_enter Tryz.func17, Tryz.ntmps17
        go_wp2_with fail
        refine (HT.out _ HB0.out).mono ?_
        rintro e w1 ⟨rfl, rfl⟩
        go_wp2
        rw [HM.out]
        exact bodyPost_ret (v := .tuple #[.agg #[.int .i64 (7), .int .i64 (p), .int .i64 (0), .string (baL (u.take z))], .int .i64 ((N : Int) + 1), .int .i64 0]) (by simp [results, Tryz.results17, go_sem]) rfl ⟨rone_ok p 7 0 _ _ _ (by have := HN.out; omega), next_trans (alloc_below _ _) (alloc_below _ _)⟩
      · have dx : ((x.toNat : Int) == 42) = false := by simp; omega
        have HM : Hid (globR u = badR 2) := hg0 (by rw [hst]; simpa using hx)
        clear hg0 hg1 hst hx
        go_enter Tryz.func17, Tryz.ntmps17
        go_wp2_with fail
        refine (HT.out _ HB0.out).mono ?_
        rintro e w1 ⟨rfl, rfl⟩
        go_wp2
        rw [HM.out]
        exact bodyPost_ret (v := .tuple #[.agg #[.int .i64 (7), .int .i64 (p), .int .i64 (0), .string (baL (u.take z))], .int .i64 ((N : Int) + 1), .int .i64 2]) (by simp [results, Tryz.results17, go_sem]) rfl ⟨rone_bad p 2 (by decide) 7 0 _ _, next_trans (alloc_below _ _) (alloc_below _ _)⟩
theorem word_num (w : List UInt8) (z : Nat) (h : shapeL w = true) : (wordOf w z).e = parE w ∧ ((wordOf w z).e = 0 → (wordOf w z).k = 1 ∧ (wordOf w z).i = parV w ∧ (wordOf w z).s = [] ∧ (wordOf w z).z = z) := by
  have h2 : parE w = 0 ∨ parE w = 11 := by
    unfold parE; rw [if_pos h]; unfold resE; split
    · exact .inl rfl
    · exact .inr rfl
  unfold wordOf
  rcases h2 with h2 | h2
  · rw [if_pos h2]
    exact ⟨h2.symm, fun _ => ⟨rfl, rfl, rfl, rfl⟩⟩
  · rw [if_neg (by rw [h2]; decide), if_pos h2]
    exact ⟨h2.symm, fun h3 => absurd h3 (by decide)⟩
theorem parE_no {w : List UInt8} (h : shapeL w = false) : parE w = 2 := by unfold parE; rw [if_neg (by rw [h]; decide)]

set_option maxHeartbeats 8000000 in
set_option maxRecDepth 4000 in
theorem rone_word (b o n cap p : Nat) (l : List UInt8) (c : UInt8) (w : World) (hl : l.length = n) (hn : n ≤ 100000) (hcap : n ≤ cap) (hp : p < n) (hb : Bs w b o l) (hc : l[p]? = some c) (h63 : ¬ (c.toNat = 40 ∨ c.toNat = 41 ∨ c.toNat = 126 ∨ c.toNat = 34 ∨ c.toNat = 63)) (m : Rd) (Hm : wordR (l.drop p) = m) :
    Calls Tryz.prog 17 #[.slice (some ⟨b, o, none⟩) n cap, .int .i64 (p : Int)] w fun e w' => ROne p m e ∧ Below w.heap.size w w' := by
  have hpi : (p : Int) < (n : Int) := by omega
  have c0 := hb.get hc
  have c1 : ((w.alloc (.cells #[.int .i64 0, .int .i64 0, .int .i64 0, .string ⟨#[]⟩] 41)).alloc (.cells #[.int .i64 0, .int .i64 (p : Int), .int .i64 0, .string ⟨#[]⟩] 41)).cell? ⟨b, o + p, none⟩ = some (.int .u8 (c.toNat : Int)) := alloc_cell (alloc_cell c0)
  have d40 : ((c.toNat : Int) == 40) = false := by simp; omega
  have d41 : ((c.toNat : Int) == 41) = false := by simp; omega
  have d126 : ((c.toNat : Int) == 126) = false := by simp; omega
  have d34 : ((c.toNat : Int) == 34) = false := by simp; omega
  have d63 : ((c.toNat : Int) == 63) = false := by simp; omega
  have hz := run_le signB (l.drop p)
  rw [List.length_drop, hl] at hz
  obtain ⟨z, HZ⟩ : ∃ z, Hid (runN signB (l.drop p) = z) := ⟨_, rfl⟩
  have HIn : Hid (∀ j c, l[p + j]? = some c → j < z → signB c = true) := fun j c h1 h2 => run_in h1 (by rw [HZ.out]; exact h2)
  have HOut : Hid (∀ c, l[p + z]? = some c → signB c = false) := fun c h1 => run_out (p := signB) (a := p) (by rw [HZ.out]; exact h1)
  rw [HZ.out] at hz
  have hsl : ∀ w, (Instr.slice 22 (.slice (some ⟨b, o, none⟩) n cap) (some (.int .i64 (p : Int))) (some (.int .i64 ((p : Int) + (z : Int)))) none).run Tryz.prog w = .ok (.slice (some ⟨b, o + p, none⟩) z (cap - p)) w := fun w => by
    rw [slice_mid _ n cap p (p + z) _ _ w rfl (by omega) (by omega) (by omega) hcap, show p + z - p = z by omega, from_at b o cap p (by omega)]
  have hlen : ((l.drop p).take z).length = z := by rw [List.length_take, List.length_drop, hl]; omega
  have hsz : (baL ((l.drop p).take z)).size = z := hlen
  have HM0 : Hid (z = 0 → m = badR 2) := by
    intro h; rw [← Hm]; unfold wordR; rw [if_pos (by rw [HZ.out]; exact h)]
  have HMs : z ≠ 0 → m = wordOf ((l.drop p).take z) z := fun h => by rw [← Hm]; exact word_some HZ.out h
  have HSh : Hid (∀ w : World, Calls Tryz.prog 33 #[.string (baL ((l.drop p).take z))] w fun e w' => e = .returned (.bool (shapeL ((l.drop p).take z))) ∧ w' = w) := fun w => shape_any _ w (by rw [hsz]; omega)
  have HPa : Hid (∀ w : World, Calls Tryz.prog 34 #[.string (baL ((l.drop p).take z))] w fun e w' => e = .returned (.tuple #[.int .i64 (parV ((l.drop p).take z)), .int .i64 (parE ((l.drop p).take z))]) ∧ w' = w) := fun w => rparse_any _ w (by rw [hsz]; omega)
  have HM4 : Hid (z ≠ 0 → shapeL ((l.drop p).take z) = false → 40 < z → m = badR 4) := by
    intro h1 h2 h3; rw [HMs h1]; unfold wordOf; rw [parE_no h2, if_neg (by decide), if_neg (by decide), if_pos h3]
  have HM2 : Hid (z ≠ 0 → shapeL ((l.drop p).take z) = false → ¬ 40 < z → m = okR 2 0 ((l.drop p).take z) z) := by
    intro h1 h2 h3; rw [HMs h1]; unfold wordOf; rw [parE_no h2, if_neg (by decide), if_neg (by decide), if_neg h3]
  have HM1 : Hid (z ≠ 0 → shapeL ((l.drop p).take z) = true → m.e = parE ((l.drop p).take z) ∧ (m.e = 0 → m.k = 1 ∧ m.i = parV ((l.drop p).take z) ∧ m.s = [] ∧ m.z = z)) := by
    intro h1 h2; rw [HMs h1]; exact word_num _ z h2
  have HCv : Hid (∀ w' : World, Below w.heap.size w w' → (convert 22 9 (.slice (some ⟨b, o + p, none⟩) z (cap - p))).run Tryz.prog w' = .ok (.string (baL ((l.drop p).take z))) w') :=
    fun w' hb2 => conv_at b (o + p) z (cap - p) _ w' hlen (((hb.next hb2).drop p).take z)
  obtain ⟨sh, HshE⟩ : ∃ sh, Hid (shapeL ((l.drop p).take z) = sh) := ⟨_, rfl⟩
  obtain ⟨V, HVE⟩ : ∃ V, Hid (parV ((l.drop p).take z) = V) := ⟨_, rfl⟩
  obtain ⟨E, HEE⟩ : ∃ E, Hid (parE ((l.drop p).take z) = E) := ⟨_, rfl⟩
  obtain ⟨X, HX⟩ : ∃ X, Hid (baL ((l.drop p).take z) = X) := ⟨_, rfl⟩
  rw [HX.out] at hsz HSh HPa HCv
  rw [HshE.out] at HSh HM4 HM2 HM1
  rw [HVE.out, HEE.out] at HPa HM1
  have HI : Hid (Bs w b o l) := hb
  have HL : Hid (l.length = n) := hl
  clear hb hl hlen HMs c0 hc h63
  go_enter Tryz.func17, Tryz.ntmps17
  go_wp2
  obtain ⟨W, HW0, HWb, r0, r1, r2, r3, q0, q1, q2, q3, hf0, hf1⟩ : ∃ W, Hid ((w.alloc (.cells #[.int .i64 0, .int .i64 0, .int .i64 0, .string ⟨#[]⟩] 41)).alloc (.cells #[.int .i64 0, .int .i64 (p : Int), .int .i64 0, .string ⟨#[]⟩] 41) = W) ∧ Hid (Below w.heap.size w W) ∧ W.cell? ⟨w.heap.size, 0, none⟩ = some (.int .i64 0) ∧ W.cell? ⟨w.heap.size, 1, none⟩ = some (.int .i64 0) ∧ W.cell? ⟨w.heap.size, 2, none⟩ = some (.int .i64 0) ∧ W.cell? ⟨w.heap.size, 3, none⟩ = some (.string ⟨#[]⟩)
      ∧ W.cell? ⟨w.heap.size + 1, 0, none⟩ = some (.int .i64 0) ∧ W.cell? ⟨w.heap.size + 1, 1, none⟩ = some (.int .i64 (p : Int)) ∧ W.cell? ⟨w.heap.size + 1, 2, none⟩ = some (.int .i64 0) ∧ W.cell? ⟨w.heap.size + 1, 3, none⟩ = some (.string ⟨#[]⟩) ∧ (∀ q, W.frozen? ⟨w.heap.size, q, none⟩ = false) ∧ (∀ q, W.frozen? ⟨w.heap.size + 1, q, none⟩ = false) :=
    ⟨_, rfl, next_trans (alloc_below _ _) (alloc_below _ _), by simp, by simp, by simp, by simp, by simp, by simp, by simp, by simp, by intro q; simp, by intro q; simp⟩
  rw [HW0.out]
  have hcv := HCv.out W HWb.out
  clear c1
  go_loop [17] (fun i => ∃ j : Nat, j ≤ z ∧ i = .int .i64 ((p : Int) + (j : Int))) (fun i => n - (intOf i).toNat)
  case atStart => exact ⟨0, Nat.zero_le _, by go_num⟩
  case round =>
    obtain ⟨j, hj, rfl⟩ := hrel
    by_cases hlt : p + j < n
    · have hli : (p : Int) + (j : Int) < (n : Int) := by omega
      have hkl : p + j < l.length := by rw [HL.out]; exact hlt
      obtain ⟨c, HC⟩ : ∃ c, Hid (l[p + j]? = some c) := ⟨_, List.getElem?_eq_getElem hkl⟩
      have c0 := (HI.out.next HWb.out).get HC.out
      by_cases hjz : j < z
      · have hpc : Hid (signB c = true) := HIn.out j c HC.out hjz
        have HP : Hid (∀ w : World, Calls Tryz.prog 32 #[.int .u8 (c.toNat : Int)] w fun e w' => e = .returned (.bool true) ∧ w' = w) := by
          intro w; rw [← hpc.out]; exact sign_any c w
        go_wp2_with (go_at_call 32; refine (HP.out _).mono ?_; rintro e w1 ⟨rfl, rfl⟩)
        go_round
        case rel => exact ⟨j + 1, by omega, by go_num⟩
        case measure => simp [intOf]; omega
      · obtain rfl : z = j := by omega
        have hpc : Hid (signB c = false) := HOut.out c HC.out
        have HP : Hid (∀ w : World, Calls Tryz.prog 32 #[.int .u8 (c.toNat : Int)] w fun e w' => e = .returned (.bool false) ∧ w' = w) := by
          intro w; rw [← hpc.out]; exact sign_any c w
        by_cases h0 : z = 0
        · have HE : Hid (m = badR 2) := HM0.out h0
          subst h0
          rw [Nat.add_zero] at c0
          simp only [Int.natCast_zero, Int.add_zero] at hsl hli
          go_wp2_with (go_at_call 32; refine (HP.out _).mono ?_; rintro e w1 ⟨rfl, rfl⟩)
          rw [HE.out]
          exact bodyPost_ret (v := .tuple #[.agg #[.int .i64 (0), .int .i64 (p), .int .i64 (0), .string (⟨#[]⟩)], .int .i64 0, .int .i64 2]) (by simp [results, Tryz.results17, go_sem, r0, r1, r2, r3]) rfl ⟨rone_bad p 2 (by decide) 0 0 _ _, below4 HWb.out _ (Nat.le_refl _) _ _ _ _⟩
        · have hi0 : ((z : Int) == 0) = false := by simp; omega
          cases sh
          · by_cases h40 : 40 < z
            · have hi : (40 : Int) < (z : Int) := by omega
              have HE : Hid (m = badR 4) := HM4.out h0 rfl h40
              go_wp2_with (first | (go_at_call 32; refine (HP.out _).mono ?_; rintro e w1 ⟨rfl, rfl⟩) | (go_at_call 33; refine (HSh.out _).mono ?_; rintro e w1 ⟨rfl, rfl⟩))
              rw [HE.out]
              exact bodyPost_ret (v := .tuple #[.agg #[.int .i64 (0), .int .i64 (p), .int .i64 (0), .string (⟨#[]⟩)], .int .i64 0, .int .i64 4]) (by simp [results, Tryz.results17, go_sem, r0, r1, r2, r3]) rfl ⟨rone_bad p 4 (by decide) 0 0 _ _, below4 HWb.out _ (Nat.le_refl _) _ _ _ _⟩
            · have hi : ¬ (40 : Int) < (z : Int) := by omega
              have HE : Hid (m = okR 2 0 ((l.drop p).take z) z) := HM2.out h0 rfl h40
              go_wp2_with (first | (go_at_call 32; refine (HP.out _).mono ?_; rintro e w1 ⟨rfl, rfl⟩) | (go_at_call 33; refine (HSh.out _).mono ?_; rintro e w1 ⟨rfl, rfl⟩))
              rw [HE.out]
              refine bodyPost_ret (v := .tuple #[.agg #[.int .i64 (2), .int .i64 (p), .int .i64 (0), .string (X)], .int .i64 ((p : Int) + (z : Int)), .int .i64 0]) (by simp [results, Tryz.results17, go_sem, r0, r1, r2, r3]) rfl ⟨?_, below4 ((HWb.out.setCell (le_block1 w 0) _).setCell (le_block1 w 3) _) _ (Nat.le_refl _) _ _ _ _⟩
              rw [← HX.out]
              exact rone_ok p 2 0 _ _ _ rfl
          · have HE := HM1.out h0 rfl
            go_wp2_with (first | (go_at_call 32; refine (HP.out _).mono ?_; rintro e w1 ⟨rfl, rfl⟩) | (go_at_call 33; refine (HSh.out _).mono ?_; rintro e w1 ⟨rfl, rfl⟩) | (go_at_call 34; refine (HPa.out _).mono ?_; rintro e w1 ⟨rfl, rfl⟩))
            refine bodyPost_ret (v := .tuple #[.agg #[.int .i64 (1), .int .i64 (p), .int .i64 (V), .string (⟨#[]⟩)], .int .i64 ((p : Int) + (z : Int)), .int .i64 E]) (by simp [results, Tryz.results17, go_sem, r0, r1, r2, r3]) rfl ⟨?_, below4 ((HWb.out.setCell (le_block1 w 0) _).setCell (le_block1 w 2) _) _ (Nat.le_refl _) _ _ _ _⟩
            exact ⟨1, V, ⟨#[]⟩, _, by rw [HE.1], fun h => ⟨(HE.2 h).1.symm, (HE.2 h).2.1.symm, by rw [(HE.2 h).2.2.1]; rfl, by rw [(HE.2 h).2.2.2]⟩⟩
    · have hli : ¬ (p : Int) + (j : Int) < (n : Int) := by omega
      obtain rfl : z = j := by omega
      by_cases h0 : z = 0
      · exact absurd hp (by omega)
      · have hi0 : ((z : Int) == 0) = false := by simp; omega
        cases sh
        · by_cases h40 : 40 < z
          · have hi : (40 : Int) < (z : Int) := by omega
            have HE : Hid (m = badR 4) := HM4.out h0 rfl h40
            go_wp2_with (go_at_call 33; refine (HSh.out _).mono ?_; rintro e w1 ⟨rfl, rfl⟩)
            rw [HE.out]
            exact bodyPost_ret (v := .tuple #[.agg #[.int .i64 (0), .int .i64 (p), .int .i64 (0), .string (⟨#[]⟩)], .int .i64 0, .int .i64 4]) (by simp [results, Tryz.results17, go_sem, r0, r1, r2, r3]) rfl ⟨rone_bad p 4 (by decide) 0 0 _ _, below4 HWb.out _ (Nat.le_refl _) _ _ _ _⟩
          · have hi : ¬ (40 : Int) < (z : Int) := by omega
            have HE : Hid (m = okR 2 0 ((l.drop p).take z) z) := HM2.out h0 rfl h40
            go_wp2_with (go_at_call 33; refine (HSh.out _).mono ?_; rintro e w1 ⟨rfl, rfl⟩)
            rw [HE.out]
            refine bodyPost_ret (v := .tuple #[.agg #[.int .i64 (2), .int .i64 (p), .int .i64 (0), .string (X)], .int .i64 ((p : Int) + (z : Int)), .int .i64 0]) (by simp [results, Tryz.results17, go_sem, r0, r1, r2, r3]) rfl ⟨?_, below4 ((HWb.out.setCell (le_block1 w 0) _).setCell (le_block1 w 3) _) _ (Nat.le_refl _) _ _ _ _⟩
            rw [← HX.out]
            exact rone_ok p 2 0 _ _ _ rfl
        · have HE := HM1.out h0 rfl
          go_wp2_with (first | (go_at_call 33; refine (HSh.out _).mono ?_; rintro e w1 ⟨rfl, rfl⟩) | (go_at_call 34; refine (HPa.out _).mono ?_; rintro e w1 ⟨rfl, rfl⟩))
          refine bodyPost_ret (v := .tuple #[.agg #[.int .i64 (1), .int .i64 (p), .int .i64 (V), .string (⟨#[]⟩)], .int .i64 ((p : Int) + (z : Int)), .int .i64 E]) (by simp [results, Tryz.results17, go_sem, r0, r1, r2, r3]) rfl ⟨?_, below4 ((HWb.out.setCell (le_block1 w 0) _).setCell (le_block1 w 2) _) _ (Nat.le_refl _) _ _ _ _⟩
          exact ⟨1, V, ⟨#[]⟩, _, by rw [HE.1], fun h => ⟨(HE.2 h).1.symm, (HE.2 h).2.1.symm, by rw [(HE.2 h).2.2.1]; rfl, by rw [(HE.2 h).2.2.2]⟩⟩

end Go.Proofs.YtlnkeebfaninfaaGreatDoor
