import Derived.Test.YtnhbjhdkpbhioaaGreatDoorG5
import Derived.Test.YtnhbjhdkpbhioaaGreatDoorG1
namespace Go.Proofs.YtnhbjhdkpbhioaaGreatDoor
open Go.RowKit
set_option maxHeartbeats 1000000 in
theorem rblank_any (c : UInt8) (w : World) :
    Calls Tryz.prog 79 #[.int .u8 (c.toNat : Int)] w fun e w' => e = .returned (.bool (blankB c)) ∧ w' = w := by
  by_cases h1 : c.toNat = 32
  · have d1 : ((c.toNat : Int) == 32) = true := by simp; omega
    have HB : Hid (blankB c = true) := by unfold blankB; exact decide_eq_true (by omega)
    go_enter Tryz.func79, Tryz.ntmps79
    go_wp2
    go_ret
    exact ⟨ret_bool HB.out.symm, rfl⟩
  have d1 : ((c.toNat : Int) == 32) = false := by simp; omega
  by_cases h2 : c.toNat = 9
  · have d2 : ((c.toNat : Int) == 9) = true := by simp; omega
    have HB : Hid (blankB c = true) := by unfold blankB; exact decide_eq_true (by omega)
    clear h1
    go_enter Tryz.func79, Tryz.ntmps79
    go_wp2
    go_ret
    exact ⟨ret_bool HB.out.symm, rfl⟩
  have d2 : ((c.toNat : Int) == 9) = false := by simp; omega
  by_cases h3 : c.toNat = 10
  · have d3 : ((c.toNat : Int) == 10) = true := by simp; omega
    have HB : Hid (blankB c = true) := by unfold blankB; exact decide_eq_true (by omega)
    clear h1 h2
    go_enter Tryz.func79, Tryz.ntmps79
    go_wp2
    go_ret
    exact ⟨ret_bool HB.out.symm, rfl⟩
  have d3 : ((c.toNat : Int) == 10) = false := by simp; omega
  by_cases h4 : c.toNat = 13
  · have d4 : ((c.toNat : Int) == 13) = true := by simp; omega
    have HB : Hid (blankB c = true) := by unfold blankB; exact decide_eq_true (by omega)
    clear h1 h2 h3
    go_enter Tryz.func79, Tryz.ntmps79
    go_wp2
    go_ret
    exact ⟨ret_bool HB.out.symm, rfl⟩
  have d4 : ((c.toNat : Int) == 13) = false := by simp; omega
  have HB : Hid (blankB c = false) := by unfold blankB; exact decide_eq_false (by omega)
  clear h1 h2 h3 h4
  go_enter Tryz.func79, Tryz.ntmps79
  go_wp2
  go_ret
  exact ⟨ret_bool HB.out.symm, rfl⟩
def offZ (p : Nat) (R : Rd) : Int := if R.e = 0 then (p : Int) + (R.z : Int) else 0
theorem ret_sii {s t : ByteArray} {a b c d : Int} (h : s = t) (h2 : a = b) (h3 : c = d) : Ending.returned (.tuple #[.string s, .int .i64 a, .int .i64 c]) = .returned (.tuple #[.string t, .int .i64 b, .int .i64 d]) := by rw [h, h2, h3]
theorem ba_snoc (acc : List UInt8) (c : UInt8) : baL acc ++ chr (c.toNat : Int) = baL (acc ++ [c]) := by
  apply ba_ext
  rw [ba_app, chr_list, baL_list, baL_list]
  simp
set_option maxHeartbeats 4000000 in
set_option maxRecDepth 4000 in
theorem rtext_str (b o n cap p : Nat) (l : List UInt8) (w : World) (hl : l.length = n) (h : Bs w b o l) (hn : n ≤ 100000) (hp : p + 1 ≤ n) (R : Rd) (HR : Hid (strA (l.drop (p + 1)) [] 1 = R)) :
    Calls Tryz.prog 112 #[.slice (some ⟨b, o, none⟩) n cap, .int .i64 ((p : Int) + 1)] w fun e w' => e = .returned (.tuple #[.string (baL R.s), .int .i64 (offZ p R), .int .i64 R.e]) ∧ Below w.heap.size w w' := by
  have HI : Hid (Bs w b o l) := h
  have HL : Hid (l.length = n) := hl
  clear h hl
  go_enter Tryz.func112, Tryz.ntmps112
  go_wp2
  go_loopw [1, 7] (fun i v wr => ∃ (k : Nat) (acc : List UInt8), 1 ≤ k ∧ p + k ≤ n ∧ i = .int .i64 ((p : Int) + (k : Int)) ∧ v = .string (baL acc) ∧ Hid (strA (l.drop (p + k)) acc k = R) ∧ Hid (Below w.heap.size w wr) ∧ Hid (acc.length ≤ k)) (fun i _ _ => n - (intOf i).toNat)
  case atStart => exact ⟨1, [], Nat.le_refl _, hp, rfl, rfl, HR, Below.refl _ _, Nat.zero_le _⟩
  case round =>
    obtain ⟨k, acc, hk1, hk, rfl, rfl, HS, HW, HA⟩ := hrel
    have hsz : (baL acc).size ≤ k := by rw [baL_size]; exact HA.out
    by_cases hlt : p + k < n
    · have hli : (p : Int) + (k : Int) < (n : Int) := by omega
      have hkl : p + k < l.length := by rw [HL.out]; exact hlt
      obtain ⟨c, HC⟩ : ∃ c, Hid (l[p + k]? = some c) := ⟨_, List.getElem?_eq_getElem hkl⟩
      have c0 := (HI.out.next HW.out).get HC.out
      by_cases c34 : c.toNat = 34
      · have d1 : ((c.toNat : Int) == 34) = true := by simp; omega
        have HM : Hid (endR acc k = R) := by rw [Hid, ← HS.out, drop_at HC.out, strA_end _ _ _ _ c34]
        clear HS c34
        by_cases hz : 1000 < acc.length
        · have hzi : (1000 : Int) < ((baL acc).size : Int) := by rw [baL_size]; omega
          have HE : Hid (R = badR 4) := by rw [Hid, ← HM.out]; unfold endR; rw [if_pos hz]
          go_wp2
          rw [HE.out]
          exact bodyPost_ret (v := .tuple #[.string (baL []), .int .i64 0, .int .i64 4]) (by simp [results, Tryz.results112, go_sem, baL]) rfl ⟨rfl, HW.out⟩
        · have hzi : ¬ (1000 : Int) < ((baL acc).size : Int) := by rw [baL_size]; omega
          have HE : Hid (R = okR 3 0 acc (k + 1)) := by rw [Hid, ← HM.out]; unfold endR; rw [if_neg hz]
          go_wp2
          rw [HE.out]
          refine bodyPost_ret (v := .tuple #[.string (baL acc), .int .i64 ((p : Int) + (k : Int) + 1), .int .i64 0]) (by simp [results, Tryz.results112, go_sem]) rfl ⟨ret_sii rfl ?_ rfl, HW.out⟩
          unfold offZ okR
          simp; omega
      · have d1 : ((c.toNat : Int) == 34) = false := by simp; omega
        by_cases c92 : c.toNat = 92
        · have d2 : ((c.toNat : Int) == 92) = true := by simp; omega
          by_cases hz : p + k + 1 = n
          · have hzi : ((p : Int) + (k : Int) + 1 == (n : Int)) = true := by simp; omega
            have HE : Hid (R = badR 3) := by rw [Hid, ← HS.out, drop_at HC.out, List.drop_eq_nil_of_le (by rw [HL.out]; omega), strA_esc0 _ _ _ c92]
            clear c34 c92
            go_wp2
            rw [HE.out]
            exact bodyPost_ret (v := .tuple #[.string (baL []), .int .i64 0, .int .i64 3]) (by simp [results, Tryz.results112, go_sem, baL]) rfl ⟨rfl, HW.out⟩
          · have hzi : ((p : Int) + (k : Int) + 1 == (n : Int)) = false := by simp; omega
            have hzl : (p : Int) + (k : Int) + 1 < (n : Int) := by omega
            have hkl2 : p + k + 1 < l.length := by rw [HL.out]; omega
            obtain ⟨d, HD⟩ : ∃ d, Hid (l[p + k + 1]? = some d) := ⟨_, List.getElem?_eq_getElem hkl2⟩
            have HS2 : Hid (strA (l.drop (p + (k + 2))) (acc ++ [d]) (k + 2) = R) := by rw [Hid, ← HS.out, drop_at HC.out, drop_at HD.out, strA_esc _ _ _ _ _ c92]; rfl
            have c1 := (HI.out.next HW.out).get HD.out
            have hcv := conv_one wr (d.toNat : Int)
            have hcz := chr_size (d.toNat : Int)
            have HX : Hid (baL acc ++ chr (d.toNat : Int) = baL (acc ++ [d])) := ba_snoc acc d
            have HB : Hid (Below w.heap.size w (wr.alloc (.cells #[.int .u8 (d.toNat : Int)] 5))) := next_trans HW.out (alloc_below _ _)
            have HA2 : Hid ((acc ++ [d]).length ≤ k + 2) := by have := HA.out; rw [Hid, List.length_append, List.length_singleton]; omega
            clear c34 c92
            go_wp2
            go_round
            case rel => exact ⟨k + 2, acc ++ [d], by omega, by omega, by go_num, by rw [HX.out], HS2, HB, HA2⟩
            case measure => simp [intOf]; omega
        · have d2 : ((c.toNat : Int) == 92) = false := by simp; omega
          have HS2 : Hid (strA (l.drop (p + (k + 1))) (acc ++ [c]) (k + 1) = R) := by rw [Hid, ← HS.out, drop_at HC.out, strA_one _ _ _ _ c34 c92]; rfl
          have hcv := conv_one wr (c.toNat : Int)
          have hcz := chr_size (c.toNat : Int)
          have HX : Hid (baL acc ++ chr (c.toNat : Int) = baL (acc ++ [c])) := ba_snoc acc c
          have HB : Hid (Below w.heap.size w (wr.alloc (.cells #[.int .u8 (c.toNat : Int)] 5))) := next_trans HW.out (alloc_below _ _)
          have HA2 : Hid ((acc ++ [c]).length ≤ k + 1) := by have := HA.out; rw [Hid, List.length_append, List.length_singleton]; omega
          clear c34 c92
          go_wp2
          go_round
          case rel => exact ⟨k + 1, acc ++ [c], by omega, by omega, by go_num, by rw [HX.out], HS2, HB, HA2⟩
          case measure => simp [intOf]; omega
    · have hli : ¬ (p : Int) + (k : Int) < (n : Int) := by omega
      have HE : Hid (R = badR 3) := by rw [Hid, ← HS.out, List.drop_eq_nil_of_le (by rw [HL.out]; omega), strA_nil]
      go_wp2
      rw [HE.out]
      exact bodyPost_ret (v := .tuple #[.string (baL []), .int .i64 0, .int .i64 3]) (by simp [results, Tryz.results112, go_sem, baL]) rfl ⟨rfl, HW.out⟩
theorem slice_mid (ao : Option Addr) (n cap a k : Nat) (A K : Int) (w : World) (hA : A = (a : Int)) (hK : K = (k : Int)) (ha : a ≤ k) (hk : k ≤ n) (hn : n ≤ cap) :
    (Instr.slice 22 (.slice ao n cap) (some (.int .i64 A)) (some (.int .i64 K)) none).run Tryz.prog w = .ok (.slice (fromA ao cap a) (k - a) (cap - a)) w := by
  subst hA hK
  have hz : Tryz.t5.size = 1 := by kernel_rfl
  have h := run_slice_lh (P := Tryz.prog) w 22 ao n cap (by kernel_rfl) .i64 .i64 (a : Int) (k : Int) (by omega) (by omega) (by omega)
  rw [h]
  have he : Tryz.prog.elem 22 = 5 := by kernel_rfl
  rw [he]
  simp [sizeOf, hz, sliced, fromA, Result.andThen]
theorem get_drop {l : List UInt8} {p j : Nat} {c : UInt8} (h : l[p + j]? = some c) : (l.drop p)[j]? = some c := by rw [List.getElem?_drop]; exact h
theorem run_in {p : UInt8 → Bool} {l : List UInt8} {a j : Nat} {c : UInt8} (h : l[a + j]? = some c) (hj : j < runN p (l.drop a)) : p c = true := by
  have h1 := run_all p (l.drop a)
  rw [List.all_eq_true] at h1
  refine h1 c ?_
  refine List.mem_of_getElem? (i := j) ?_
  rw [List.getElem?_take_of_lt hj]
  exact get_drop h
theorem run_stop {p : UInt8 → Bool} : ∀ {l : List UInt8} {c : UInt8}, l[runN p l]? = some c → p c = false
  | [], c, h => by simp at h
  | d :: r, c, h => by
    rw [run_cons] at h
    by_cases hd : p d = true
    · rw [if_pos hd, List.getElem?_cons_succ] at h
      exact run_stop h
    · rw [if_neg hd] at h
      simp at h
      subst h
      simpa using hd
theorem run_out {p : UInt8 → Bool} {l : List UInt8} {a : Nat} {c : UInt8} (h : l[a + runN p (l.drop a)]? = some c) : p c = false := run_stop (get_drop h)
def nameN (p : Nat) (u : List UInt8) : Int := if nameE u = 0 then ((p + nameZ u : Nat) : Int) else 0
theorem nameN_no {u : List UInt8} {e : Int} (p : Nat) (h : nameE u = e) (h2 : e ≠ 0) : nameN p u = 0 := by unfold nameN; rw [if_neg (by rw [h]; exact h2)]
theorem nameN_ok {u : List UInt8} (p : Nat) (h : nameE u = 0) : nameN p u = ((p + nameZ u : Nat) : Int) := by unfold nameN; rw [if_pos h]
theorem IsB.from {w : World} {ao : Option Addr} {cap : Nat} {l : List UInt8} (h : IsB w ao l) (k : Nat) (hc : l.length ≤ cap) : IsB w (fromA ao cap k) (l.drop k) := fun hl => by
  rw [List.length_drop] at hl
  obtain ⟨b, o, rfl, h2⟩ := h (by omega)
  exact from_isB h2 k hc (by rw [List.length_drop]; exact hl)
set_option maxHeartbeats 4000000 in
set_option maxRecDepth 4000 in
theorem rname_any (ao : Option Addr) (n cap p : Nat) (P : Int) (l : List UInt8) (w : World) (hP : P = (p : Int)) (hl : l.length = n) (h : IsB w ao l) (hn : n ≤ 100000) (hc : n ≤ cap) (hp : p ≤ n) :
    Calls Tryz.prog 113 #[.slice ao n cap, .int .i64 P] w fun e w' => e = .returned (.tuple #[.string (baL (nameS (l.drop p))), .int .i64 (nameN p (l.drop p)), .int .i64 (nameE (l.drop p))]) ∧ w' = w := by
  subst hP
  have hz := run_le partB (l.drop p)
  rw [List.length_drop, hl] at hz
  obtain ⟨z, HZ⟩ : ∃ z, Hid (runN partB (l.drop p) = z) := ⟨_, rfl⟩
  have HIn : Hid (∀ j c, l[p + j]? = some c → j < z → partB c = true) := fun j c h1 h2 => run_in h1 (by rw [HZ.out]; exact h2)
  have HOut : Hid (∀ c, l[p + z]? = some c → partB c = false) := fun c h1 => run_out (p := partB) (a := p) (by rw [HZ.out]; exact h1)
  rw [HZ.out] at hz
  have hsl : ∀ w, (Instr.slice 22 (.slice ao n cap) (some (.int .i64 (p : Int))) (some (.int .i64 ((p : Int) + (z : Int)))) none).run Tryz.prog w = .ok (.slice (fromA ao cap p) z (cap - p)) w := fun w => by
    rw [slice_mid ao n cap p (p + z) _ _ w rfl (by omega) (by omega) (by omega) hc, show p + z - p = z by omega]
  have hlen : ((l.drop p).take z).length = z := by rw [List.length_take, List.length_drop, hl]; omega
  have hcv := conv_isB (fromA ao cap p) z (cap - p) ((l.drop p).take z) w hlen ((h.from p (by omega)).take z)
  have hsz : (baL ((l.drop p).take z)).size = z := hlen
  have HG : Hid (∀ w : World, Calls Tryz.prog 133 #[.string (baL ((l.drop p).take z))] w fun e w' => e = .returned (.bool (goodL ((l.drop p).take z))) ∧ w' = w) := fun w => rgood_any _ w (by rw [hsz]; unfold maxLen; omega)
  have HLong : Hid (40 < z → nameE (l.drop p) = 4) := fun h1 => nameE_long (by rw [HZ.out]; exact h1)
  have HNone : Hid (¬ 40 < z → goodL ((l.drop p).take z) = false → nameE (l.drop p) = 2) := fun h1 h2 => nameE_none (by rw [HZ.out]; exact h1) (by rw [HZ.out]; exact h2)
  have HGood : Hid (¬ 40 < z → goodL ((l.drop p).take z) = true → nameE (l.drop p) = 0) := fun h1 h2 => nameE_good (by rw [HZ.out]; exact h1) (by rw [HZ.out]; exact h2)
  obtain ⟨X, HX⟩ : ∃ X, Hid (baL ((l.drop p).take z) = X) := ⟨_, rfl⟩
  obtain ⟨g, Hg⟩ : ∃ g, Hid (goodL ((l.drop p).take z) = g) := ⟨_, rfl⟩
  rw [HX.out] at hcv hsz HG
  rw [Hg.out] at HG HNone HGood
  have HI : Hid (IsB w ao l) := h
  have HL : Hid (l.length = n) := hl
  clear h hl hlen
  go_enter Tryz.func113, Tryz.ntmps113
  go_wp2
  go_loop [7] (fun i => ∃ j : Nat, j ≤ z ∧ i = .int .i64 ((p : Int) + (j : Int))) (fun i => n - (intOf i).toNat)
  case atStart => exact ⟨0, Nat.zero_le _, by go_num⟩
  case round =>
    obtain ⟨j, hj, rfl⟩ := hrel
    by_cases hlt : p + j < n
    · have hli : (p : Int) + (j : Int) < (n : Int) := by omega
      have hkl : p + j < l.length := by rw [HL.out]; exact hlt
      obtain ⟨b, o, rfl, hbs⟩ := HI.out (by omega)
      obtain ⟨c, HC⟩ : ∃ c, Hid (l[p + j]? = some c) := ⟨_, List.getElem?_eq_getElem hkl⟩
      have c0 := hbs.get HC.out
      have HB : Hid (Bs w b o l) := hbs
      clear hbs
      by_cases hjz : j < z
      · have hpc : Hid (partI (c.toNat : Int) = true) := HIn.out j c HC.out hjz
        have HP : Hid (∀ w : World, Calls Tryz.prog 132 #[.int .u8 (c.toNat : Int)] w fun e w' => e = .returned (.bool true) ∧ w' = w) := by
          intro w; rw [← hpc.out]; exact part_any _ w
        go_wp2_with (go_at_call 132; refine (HP.out _).mono ?_; rintro e w1 ⟨rfl, rfl⟩)
        go_round
        case rel => exact ⟨j + 1, by omega, by go_num⟩
        case measure => simp [intOf]; omega
      · obtain rfl : z = j := by omega
        have hpc : Hid (partI (c.toNat : Int) = false) := HOut.out c HC.out
        have HP : Hid (∀ w : World, Calls Tryz.prog 132 #[.int .u8 (c.toNat : Int)] w fun e w' => e = .returned (.bool false) ∧ w' = w) := by
          intro w; rw [← hpc.out]; exact part_any _ w
        by_cases h40 : 40 < z
        · have hi : (40 : Int) < (z : Int) := by omega
          have HE : Hid (nameE (l.drop p) = 4) := HLong.out h40
          go_wp2_with (go_at_call 132; refine (HP.out _).mono ?_; rintro e w1 ⟨rfl, rfl⟩)
          exact bodyPost_ret (v := .tuple #[.string (baL []), .int .i64 0, .int .i64 4]) (by simp [results, Tryz.results113, go_sem, baL]) rfl ⟨by rw [nameS_no HE.out (by decide), nameN_no p HE.out (by decide), HE.out], rfl⟩
        · have hi : ¬ (40 : Int) < (z : Int) := by omega
          cases g
          · have HE : Hid (nameE (l.drop p) = 2) := HNone.out h40 rfl
            go_wp2_with (first | (go_at_call 132; refine (HP.out _).mono ?_; rintro e w1 ⟨rfl, rfl⟩) | (go_at_call 133; refine (HG.out _).mono ?_; rintro e w1 ⟨rfl, rfl⟩))
            exact bodyPost_ret (v := .tuple #[.string (baL []), .int .i64 0, .int .i64 2]) (by simp [results, Tryz.results113, go_sem, baL]) rfl ⟨by rw [nameS_no HE.out (by decide), nameN_no p HE.out (by decide), HE.out], rfl⟩
          · have HE : Hid (nameE (l.drop p) = 0) := HGood.out h40 rfl
            have HS : Hid (nameS (l.drop p) = (l.drop p).take z) := by unfold nameS; rw [Hid, if_pos HE.out, show nameZ (l.drop p) = z from HZ.out]
            go_wp2_with (first | (go_at_call 132; refine (HP.out _).mono ?_; rintro e w1 ⟨rfl, rfl⟩) | (go_at_call 133; refine (HG.out _).mono ?_; rintro e w1 ⟨rfl, rfl⟩))
            refine bodyPost_ret (v := .tuple #[.string X, .int .i64 ((p : Int) + (z : Int)), .int .i64 0]) (by simp [results, Tryz.results113, go_sem]) rfl ⟨?_, rfl⟩
            rw [HS.out, nameN_ok p HE.out, HE.out, HX.out, show nameZ (l.drop p) = z from HZ.out, Int.natCast_add]
    · have hli : ¬ (p : Int) + (j : Int) < (n : Int) := by omega
      obtain rfl : z = j := by omega
      by_cases h40 : 40 < z
      · have hi : (40 : Int) < (z : Int) := by omega
        have HE : Hid (nameE (l.drop p) = 4) := HLong.out h40
        go_wp2
        exact bodyPost_ret (v := .tuple #[.string (baL []), .int .i64 0, .int .i64 4]) (by simp [results, Tryz.results113, go_sem, baL]) rfl ⟨by rw [nameS_no HE.out (by decide), nameN_no p HE.out (by decide), HE.out], rfl⟩
      · have hi : ¬ (40 : Int) < (z : Int) := by omega
        cases g
        · have HE : Hid (nameE (l.drop p) = 2) := HNone.out h40 rfl
          go_wp2_with (go_at_call 133; refine (HG.out _).mono ?_; rintro e w1 ⟨rfl, rfl⟩)
          exact bodyPost_ret (v := .tuple #[.string (baL []), .int .i64 0, .int .i64 2]) (by simp [results, Tryz.results113, go_sem, baL]) rfl ⟨by rw [nameS_no HE.out (by decide), nameN_no p HE.out (by decide), HE.out], rfl⟩
        · have HE : Hid (nameE (l.drop p) = 0) := HGood.out h40 rfl
          have HS : Hid (nameS (l.drop p) = (l.drop p).take z) := by unfold nameS; rw [Hid, if_pos HE.out, show nameZ (l.drop p) = z from HZ.out]
          go_wp2_with (go_at_call 133; refine (HG.out _).mono ?_; rintro e w1 ⟨rfl, rfl⟩)
          refine bodyPost_ret (v := .tuple #[.string X, .int .i64 ((p : Int) + (z : Int)), .int .i64 0]) (by simp [results, Tryz.results113, go_sem]) rfl ⟨?_, rfl⟩
          rw [HS.out, nameN_ok p HE.out, HE.out, HX.out, show nameZ (l.drop p) = z from HZ.out, Int.natCast_add]
end Go.Proofs.YtnhbjhdkpbhioaaGreatDoor
namespace Go.Proofs.YtnhbjhdkpbhioaaGreatDoor
open Go.RowKit
def ROne (p : Nat) (m : Rd) (e : Ending) : Prop := ∃ (k i : Int) (s : ByteArray) (z : Int), e = .returned (.tuple #[.agg #[.int .i64 (k), .int .i64 (p), .int .i64 (i), .string (s)], .int .i64 z, .int .i64 m.e]) ∧ (m.e = 0 → k = m.k ∧ i = m.i ∧ s = baL m.s ∧ z = (p : Int) + (m.z : Int))
theorem rone_ok (p : Nat) (k i : Int) (s : List UInt8) (z : Nat) (Z : Int) (hZ : Z = (p : Int) + (z : Int)) : ROne p (okR k i s z) (.returned (.tuple #[.agg #[.int .i64 (k), .int .i64 (p), .int .i64 (i), .string (baL s)], .int .i64 Z, .int .i64 0])) :=
  ⟨k, i, baL s, Z, rfl, fun _ => ⟨rfl, rfl, rfl, hZ⟩⟩
theorem rone_bad (p : Nat) (e : Int) (he : e ≠ 0) (k i : Int) (s : ByteArray) (Z : Int) : ROne p (badR e) (.returned (.tuple #[.agg #[.int .i64 (k), .int .i64 (p), .int .i64 (i), .string (s)], .int .i64 Z, .int .i64 e])) :=
  ⟨k, i, s, Z, rfl, fun h => absurd h he⟩
theorem rone_at (p : Nat) (m : Rd) (k : Int) (Z : Int) (hm : m.e = 0 → k = m.k ∧ m.i = 0 ∧ Z = (p : Int) + (m.z : Int)) : ROne p m (.returned (.tuple #[.agg #[.int .i64 (k), .int .i64 (p), .int .i64 (0), .string (baL m.s)], .int .i64 Z, .int .i64 m.e])) :=
  ⟨k, 0, baL m.s, Z, rfl, fun h => ⟨(hm h).1, (hm h).2.1.symm, rfl, (hm h).2.2⟩⟩
theorem str_kind : ∀ (r acc : List UInt8) (n : Nat), (strA r acc n).e = 0 → (strA r acc n).k = 3 ∧ (strA r acc n).i = 0
  | [], acc, n, h => by rw [strA_nil] at h; exact absurd h (by decide)
  | c :: r, acc, n, h => by
    by_cases h1 : c.toNat = 34
    · rw [strA_end _ _ _ _ h1] at h ⊢
      unfold endR at h ⊢
      split at h
      · exact absurd h (by decide)
      · rename_i h3; rw [if_neg h3]; exact ⟨rfl, rfl⟩
    · by_cases h2 : c.toNat = 92
      · cases r with
        | nil => rw [strA_esc0 _ _ _ h2] at h; exact absurd h (by decide)
        | cons d t =>
          rw [strA_esc _ _ _ _ _ h2] at h ⊢
          exact str_kind t _ _ h
      · rw [strA_one _ _ _ _ h1 h2] at h ⊢
        exact str_kind r _ _ h
theorem four_cells {w w1 : World} {v0 v1 v2 v3 : Value} {T : Nat} {o : Obj} (h : Below ((w.alloc (.cells #[v0, v1, v2, v3] T)).alloc o).heap.size ((w.alloc (.cells #[v0, v1, v2, v3] T)).alloc o) w1) :
    w1.cell? ⟨w.heap.size, 0, none⟩ = some v0 ∧ w1.cell? ⟨w.heap.size, 1, none⟩ = some v1 ∧ w1.cell? ⟨w.heap.size, 2, none⟩ = some v2 ∧ w1.cell? ⟨w.heap.size, 3, none⟩ = some v3 :=
  ⟨keep_cell h (alloc_cell (box0 rfl)), keep_cell h (alloc_cell (box0 rfl)), keep_cell h (alloc_cell (box0 rfl)), keep_cell h (alloc_cell (box0 rfl))⟩
theorem le_block1 (w : World) (q : Nat) : w.heap.size ≤ (⟨w.heap.size + 1, q, none⟩ : Addr).block := Nat.le_succ _
set_option maxHeartbeats 4000000 in
set_option maxRecDepth 4000 in
theorem rone_mark (b o n cap p : Nat) (l : List UInt8) (c : UInt8) (w : World) (hn : n ≤ 100000) (hp : p < n) (hb : Bs w b o l) (hc : l[p]? = some c) (K : Int) (h : (c.toNat = 40 ∧ K = 4) ∨ (c.toNat = 41 ∧ K = 5) ∨ (c.toNat = 126 ∧ K = 8)) :
    Calls Tryz.prog 80 #[.slice (some ⟨b, o, none⟩) n cap, .int .i64 (p : Int)] w fun e w' => e = .returned (.tuple #[.agg #[.int .i64 (K), .int .i64 (p), .int .i64 (0), .string (⟨#[]⟩)], .int .i64 ((p : Int) + 1), .int .i64 0]) ∧ Below w.heap.size w w' := by
  have hpi : (p : Int) < (n : Int) := by omega
  have c0 := hb.get hc
  have c1 : ((w.alloc (.cells #[.int .i64 0, .int .i64 0, .int .i64 0, .string ⟨#[]⟩] 175)).alloc (.cells #[.int .i64 0, .int .i64 (p : Int), .int .i64 0, .string ⟨#[]⟩] 175)).cell? ⟨b, o + p, none⟩ = some (.int .u8 (c.toNat : Int)) := alloc_cell (alloc_cell c0)
  clear hb c0 hc
  rcases h with ⟨h1, rfl⟩ | ⟨h1, rfl⟩ | ⟨h1, rfl⟩
  · have d0 : ((c.toNat : Int) == 40) = true := by simp; omega
    clear h1
    go_enter Tryz.func80, Tryz.ntmps80
    go_wp2
    exact bodyPost_ret (v := .tuple #[.agg #[.int .i64 (4), .int .i64 (p), .int .i64 (0), .string (⟨#[]⟩)], .int .i64 ((p : Int) + 1), .int .i64 0]) (by simp [results, Tryz.results80, go_sem]) rfl ⟨rfl, next_trans (alloc_below _ _) (alloc_below _ _)⟩
  · have d0 : ((c.toNat : Int) == 40) = false := by simp; omega
    have d1 : ((c.toNat : Int) == 41) = true := by simp; omega
    clear h1
    go_enter Tryz.func80, Tryz.ntmps80
    go_wp2
    exact bodyPost_ret (v := .tuple #[.agg #[.int .i64 (5), .int .i64 (p), .int .i64 (0), .string (⟨#[]⟩)], .int .i64 ((p : Int) + 1), .int .i64 0]) (by simp [results, Tryz.results80, go_sem]) rfl ⟨rfl, next_trans (alloc_below _ _) (alloc_below _ _)⟩
  · have d0 : ((c.toNat : Int) == 40) = false := by simp; omega
    have d1 : ((c.toNat : Int) == 41) = false := by simp; omega
    have d2 : ((c.toNat : Int) == 126) = true := by simp; omega
    clear h1
    go_enter Tryz.func80, Tryz.ntmps80
    go_wp2
    exact bodyPost_ret (v := .tuple #[.agg #[.int .i64 (8), .int .i64 (p), .int .i64 (0), .string (⟨#[]⟩)], .int .i64 ((p : Int) + 1), .int .i64 0]) (by simp [results, Tryz.results80, go_sem]) rfl ⟨rfl, next_trans (alloc_below _ _) (alloc_below _ _)⟩
set_option maxHeartbeats 4000000 in
set_option maxRecDepth 4000 in
theorem rone_str (b o n cap p : Nat) (l : List UInt8) (c : UInt8) (w : World) (hl : l.length = n) (hn : n ≤ 100000) (hp : p < n) (hb : Bs w b o l) (hc : l[p]? = some c) (h34 : c.toNat = 34) (R : Rd) (HR : Hid (strA (l.drop (p + 1)) [] 1 = R)) :
    Calls Tryz.prog 80 #[.slice (some ⟨b, o, none⟩) n cap, .int .i64 (p : Int)] w fun e w' => ROne p R e ∧ Below w.heap.size w w' := by
  have hpi : (p : Int) < (n : Int) := by omega
  have c0 := hb.get hc
  have c1 : ((w.alloc (.cells #[.int .i64 0, .int .i64 0, .int .i64 0, .string ⟨#[]⟩] 175)).alloc (.cells #[.int .i64 0, .int .i64 (p : Int), .int .i64 0, .string ⟨#[]⟩] 175)).cell? ⟨b, o + p, none⟩ = some (.int .u8 (c.toNat : Int)) := alloc_cell (alloc_cell c0)
  have HB0 : Hid (Below w.heap.size w ((w.alloc (.cells #[.int .i64 0, .int .i64 0, .int .i64 0, .string ⟨#[]⟩] 175)).alloc (.cells #[.int .i64 0, .int .i64 (p : Int), .int .i64 0, .string ⟨#[]⟩] 175))) := next_trans (alloc_below _ _) (alloc_below _ _)
  have HI : Hid (Bs w b o l) := hb
  have HL : Hid (l.length = n) := hl
  have d40 : ((c.toNat : Int) == 40) = false := by simp; omega
  have d41 : ((c.toNat : Int) == 41) = false := by simp; omega
  have d126 : ((c.toNat : Int) == 126) = false := by simp; omega
  have d34 : ((c.toNat : Int) == 34) = true := by simp; omega
  have HT : Hid (∀ w' : World, Below w.heap.size w w' → Calls Tryz.prog 112 #[.slice (some ⟨b, o, none⟩) n cap, .int .i64 ((p : Int) + 1)] w' fun e w2 => e = .returned (.tuple #[.string (baL R.s), .int .i64 (offZ p R), .int .i64 R.e]) ∧ Below w'.heap.size w' w2) :=
    fun w' hb => rtext_str b o n cap p l w' HL.out (HI.out.next hb) hn (by omega) R HR
  have HK : Hid (R.e = 0 → R.k = 3 ∧ R.i = 0) := by
    intro h; rw [← HR.out] at h ⊢; exact str_kind _ _ _ h
  clear hb c0 hc hl h34
  obtain ⟨Z, HZ⟩ : ∃ Z, Hid (offZ p R = Z) := ⟨_, rfl⟩
  rw [HZ.out] at HT
  go_enter Tryz.func80, Tryz.ntmps80
  go_wp2_with fail
  refine (HT.out _ HB0.out).mono ?_
  rintro e w1 ⟨rfl, hb1⟩
  have HB : Hid (Below w.heap.size w w1) := next_trans HB0.out hb1
  obtain ⟨hcc, hff⟩ := bcells hb1
  obtain ⟨r0, r1, r2, r3⟩ := four_cells hb1
  clear hb1
  go_wp2
  refine bodyPost_ret (v := .tuple #[.agg #[.int .i64 (3), .int .i64 (p), .int .i64 (0), .string (baL R.s)], .int .i64 Z, .int .i64 R.e]) (by simp [results, Tryz.results80, go_sem, r0, r1, r2, r3]) rfl ⟨rone_at p R 3 Z ?_, below4 ((HB.out.setCell (le_block1 w 0) _).setCell (le_block1 w 3) _) _ (Nat.le_refl _) _ _ _ _⟩
  intro h
  obtain ⟨h1, h2⟩ := HK.out h
  refine ⟨h1.symm, h2, ?_⟩
  rw [← HZ.out]
  unfold offZ
  rw [if_pos h]
theorem plain_e (t : List UInt8) : (plainR t).e = nameE t := by unfold plainR; split <;> rename_i h <;> first | exact h.symm | rfl
theorem plain_s (t : List UInt8) : (plainR t).s = nameS t := by unfold plainR nameS; split <;> rfl
theorem plain_k (t : List UInt8) (h : (plainR t).e = 0) : (plainR t).k = 6 ∧ (plainR t).i = 0 ∧ (plainR t).z = 1 + nameZ t := by
  rw [plain_e] at h
  rw [plain_ok h]; exact ⟨rfl, rfl, rfl⟩
set_option maxHeartbeats 4000000 in
set_option maxRecDepth 4000 in
theorem rone_plain0 (b o n cap p : Nat) (l : List UInt8) (c : UInt8) (w : World) (hl : l.length = n) (hn : n ≤ 100000) (hcap : n ≤ cap) (hb : Bs w b o l) (hc : l[p]? = some c) (h63 : c.toNat = 63) (h1 : p + 1 = n) :
    Calls Tryz.prog 80 #[.slice (some ⟨b, o, none⟩) n cap, .int .i64 (p : Int)] w fun e w' => ROne p (plainR (l.drop (p + 1))) e ∧ Below w.heap.size w w' := by
  have hpi : (p : Int) < (n : Int) := by omega
  have c0 := hb.get hc
  have c1 : ((w.alloc (.cells #[.int .i64 0, .int .i64 0, .int .i64 0, .string ⟨#[]⟩] 175)).alloc (.cells #[.int .i64 0, .int .i64 (p : Int), .int .i64 0, .string ⟨#[]⟩] 175)).cell? ⟨b, o + p, none⟩ = some (.int .u8 (c.toNat : Int)) := alloc_cell (alloc_cell c0)
  have HB0 : Hid (Below w.heap.size w ((w.alloc (.cells #[.int .i64 0, .int .i64 0, .int .i64 0, .string ⟨#[]⟩] 175)).alloc (.cells #[.int .i64 0, .int .i64 (p : Int), .int .i64 0, .string ⟨#[]⟩] 175))) := next_trans (alloc_below _ _) (alloc_below _ _)
  have HI : Hid (Bs w b o l) := hb
  have HL : Hid (l.length = n) := hl
  have d40 : ((c.toNat : Int) == 40) = false := by simp; omega
  have d41 : ((c.toNat : Int) == 41) = false := by simp; omega
  have d126 : ((c.toNat : Int) == 126) = false := by simp; omega
  have d34 : ((c.toNat : Int) == 34) = false := by simp; omega
  have d63 : ((c.toNat : Int) == 63) = true := by simp; omega
  have hli : ¬ (p : Int) + 1 < (n : Int) := by omega
  have HT : Hid (∀ w' : World, Below w.heap.size w w' → Calls Tryz.prog 113 #[.slice (some ⟨b, o, none⟩) n cap, .int .i64 ((p : Int) + 1)] w' fun e w2 => e = .returned (.tuple #[.string (baL (nameS (l.drop (p + 1)))), .int .i64 (nameN (p + 1) (l.drop (p + 1))), .int .i64 (nameE (l.drop (p + 1)))]) ∧ w2 = w') :=
    fun w' hb => rname_any (some ⟨b, o, none⟩) n cap (p + 1) _ l w' (by omega) HL.out (HI.out.next hb).isB hn hcap (by omega)
  have he := plain_e (l.drop (p + 1))
  have hs := plain_s (l.drop (p + 1))
  have HK := plain_k (l.drop (p + 1))
  have HN := nameN_ok (u := l.drop (p + 1)) (p + 1)
  obtain ⟨t, Ht⟩ : ∃ t, Hid (l.drop (p + 1) = t) := ⟨_, rfl⟩
  rw [Ht.out] at HT he hs HK HN ⊢
  rw [← he, ← hs] at HT
  obtain ⟨m, Hm⟩ : ∃ m, Hid (plainR t = m) := ⟨_, rfl⟩
  rw [Hm.out] at HT HK he ⊢
  have HK2 : Hid (m.e = 0 → m.k = 6 ∧ m.i = 0 ∧ nameN (p + 1) t = (p : Int) + (m.z : Int)) := by
    intro h
    obtain ⟨h1, h2, h3⟩ := HK h
    refine ⟨h1, h2, ?_⟩
    rw [HN (by rw [← he]; exact h), h3]; omega
  obtain ⟨Z, HZ⟩ : ∃ Z, Hid (nameN (p + 1) t = Z) := ⟨_, rfl⟩
  rw [HZ.out] at HT HK2
  clear hb c0 hc hl h63 he hs HK HN
  go_enter Tryz.func80, Tryz.ntmps80
  go_wp2_with fail
  refine (HT.out _ HB0.out).mono ?_
  rintro e w1 ⟨rfl, rfl⟩
  go_wp2
  refine bodyPost_ret (v := .tuple #[.agg #[.int .i64 (6), .int .i64 (p), .int .i64 (0), .string (baL m.s)], .int .i64 Z, .int .i64 m.e]) (by simp [results, Tryz.results80, go_sem]) rfl ⟨rone_at p m 6 Z ?_, next_trans (alloc_below _ _) (alloc_below _ _)⟩
  intro h
  obtain ⟨h1, h2, h3⟩ := HK2.out h
  exact ⟨h1.symm, h2, h3⟩
set_option maxHeartbeats 4000000 in
set_option maxRecDepth 4000 in
theorem rone_plain1 (b o n cap p : Nat) (l : List UInt8) (c : UInt8) (w : World) (hl : l.length = n) (hn : n ≤ 100000) (hcap : n ≤ cap) (hb : Bs w b o l) (hc : l[p]? = some c) (h63 : c.toNat = 63) (d : UInt8) (hd : l[p + 1]? = some d) (h42 : d.toNat ≠ 42) (h1 : p + 1 < n) :
    Calls Tryz.prog 80 #[.slice (some ⟨b, o, none⟩) n cap, .int .i64 (p : Int)] w fun e w' => ROne p (plainR (l.drop (p + 1))) e ∧ Below w.heap.size w w' := by
  have hpi : (p : Int) < (n : Int) := by omega
  have c0 := hb.get hc
  have c1 : ((w.alloc (.cells #[.int .i64 0, .int .i64 0, .int .i64 0, .string ⟨#[]⟩] 175)).alloc (.cells #[.int .i64 0, .int .i64 (p : Int), .int .i64 0, .string ⟨#[]⟩] 175)).cell? ⟨b, o + p, none⟩ = some (.int .u8 (c.toNat : Int)) := alloc_cell (alloc_cell c0)
  have HB0 : Hid (Below w.heap.size w ((w.alloc (.cells #[.int .i64 0, .int .i64 0, .int .i64 0, .string ⟨#[]⟩] 175)).alloc (.cells #[.int .i64 0, .int .i64 (p : Int), .int .i64 0, .string ⟨#[]⟩] 175))) := next_trans (alloc_below _ _) (alloc_below _ _)
  have HI : Hid (Bs w b o l) := hb
  have HL : Hid (l.length = n) := hl
  have d40 : ((c.toNat : Int) == 40) = false := by simp; omega
  have d41 : ((c.toNat : Int) == 41) = false := by simp; omega
  have d126 : ((c.toNat : Int) == 126) = false := by simp; omega
  have d34 : ((c.toNat : Int) == 34) = false := by simp; omega
  have d63 : ((c.toNat : Int) == 63) = true := by simp; omega
  have hli : (p : Int) + 1 < (n : Int) := by omega
  have c2 : ((w.alloc (.cells #[.int .i64 0, .int .i64 0, .int .i64 0, .string ⟨#[]⟩] 175)).alloc (.cells #[.int .i64 0, .int .i64 (p : Int), .int .i64 0, .string ⟨#[]⟩] 175)).cell? ⟨b, o + (p + 1), none⟩ = some (.int .u8 (d.toNat : Int)) := alloc_cell (alloc_cell (hb.get hd))
  have d42 : ((d.toNat : Int) == 42) = false := by simp; omega
  have HT : Hid (∀ w' : World, Below w.heap.size w w' → Calls Tryz.prog 113 #[.slice (some ⟨b, o, none⟩) n cap, .int .i64 ((p : Int) + 1)] w' fun e w2 => e = .returned (.tuple #[.string (baL (nameS (l.drop (p + 1)))), .int .i64 (nameN (p + 1) (l.drop (p + 1))), .int .i64 (nameE (l.drop (p + 1)))]) ∧ w2 = w') :=
    fun w' hb => rname_any (some ⟨b, o, none⟩) n cap (p + 1) _ l w' (by omega) HL.out (HI.out.next hb).isB hn hcap (by omega)
  have he := plain_e (l.drop (p + 1))
  have hs := plain_s (l.drop (p + 1))
  have HK := plain_k (l.drop (p + 1))
  have HN := nameN_ok (u := l.drop (p + 1)) (p + 1)
  obtain ⟨t, Ht⟩ : ∃ t, Hid (l.drop (p + 1) = t) := ⟨_, rfl⟩
  rw [Ht.out] at HT he hs HK HN ⊢
  rw [← he, ← hs] at HT
  obtain ⟨m, Hm⟩ : ∃ m, Hid (plainR t = m) := ⟨_, rfl⟩
  rw [Hm.out] at HT HK he ⊢
  have HK2 : Hid (m.e = 0 → m.k = 6 ∧ m.i = 0 ∧ nameN (p + 1) t = (p : Int) + (m.z : Int)) := by
    intro h
    obtain ⟨h1, h2, h3⟩ := HK h
    refine ⟨h1, h2, ?_⟩
    rw [HN (by rw [← he]; exact h), h3]; omega
  obtain ⟨Z, HZ⟩ : ∃ Z, Hid (nameN (p + 1) t = Z) := ⟨_, rfl⟩
  rw [HZ.out] at HT HK2
  clear hb c0 hc hl h63 he hs HK HN hd h42
  go_enter Tryz.func80, Tryz.ntmps80
  go_wp2_with fail
  refine (HT.out _ HB0.out).mono ?_
  rintro e w1 ⟨rfl, rfl⟩
  go_wp2
  refine bodyPost_ret (v := .tuple #[.agg #[.int .i64 (6), .int .i64 (p), .int .i64 (0), .string (baL m.s)], .int .i64 Z, .int .i64 m.e]) (by simp [results, Tryz.results80, go_sem]) rfl ⟨rone_at p m 6 Z ?_, next_trans (alloc_below _ _) (alloc_below _ _)⟩
  intro h
  obtain ⟨h1, h2, h3⟩ := HK2.out h
  exact ⟨h1.symm, h2, h3⟩
end Go.Proofs.YtnhbjhdkpbhioaaGreatDoor
namespace Go.Proofs.YtnhbjhdkpbhioaaGreatDoor
open Go.RowKit
set_option maxHeartbeats 4000000 in
set_option maxRecDepth 4000 in
theorem rone_glob (b o n cap p : Nat) (l : List UInt8) (c : UInt8) (w : World) (hl : l.length = n) (hn : n ≤ 100000) (hcap : n ≤ cap) (hb : Bs w b o l) (hc : l[p]? = some c) (h63 : c.toNat = 63) (d : UInt8) (hd : l[p + 1]? = some d) (h42 : d.toNat = 42) (h1 : p + 1 < n) :
    Calls Tryz.prog 80 #[.slice (some ⟨b, o, none⟩) n cap, .int .i64 (p : Int)] w fun e w' => ROne p (globR (l.drop (p + 2))) e ∧ Below w.heap.size w w' := by
  have hpi : (p : Int) < (n : Int) := by omega
  have c0 := hb.get hc
  have c1 : ((w.alloc (.cells #[.int .i64 0, .int .i64 0, .int .i64 0, .string ⟨#[]⟩] 175)).alloc (.cells #[.int .i64 0, .int .i64 (p : Int), .int .i64 0, .string ⟨#[]⟩] 175)).cell? ⟨b, o + p, none⟩ = some (.int .u8 (c.toNat : Int)) := alloc_cell (alloc_cell c0)
  have HB0 : Hid (Below w.heap.size w ((w.alloc (.cells #[.int .i64 0, .int .i64 0, .int .i64 0, .string ⟨#[]⟩] 175)).alloc (.cells #[.int .i64 0, .int .i64 (p : Int), .int .i64 0, .string ⟨#[]⟩] 175))) := next_trans (alloc_below _ _) (alloc_below _ _)
  have HI : Hid (Bs w b o l) := hb
  have HL : Hid (l.length = n) := hl
  have d40 : ((c.toNat : Int) == 40) = false := by simp; omega
  have d41 : ((c.toNat : Int) == 41) = false := by simp; omega
  have d126 : ((c.toNat : Int) == 126) = false := by simp; omega
  have d34 : ((c.toNat : Int) == 34) = false := by simp; omega
  have d63 : ((c.toNat : Int) == 63) = true := by simp; omega
  have hli : (p : Int) + 1 < (n : Int) := by omega
  have c2 : ((w.alloc (.cells #[.int .i64 0, .int .i64 0, .int .i64 0, .string ⟨#[]⟩] 175)).alloc (.cells #[.int .i64 0, .int .i64 (p : Int), .int .i64 0, .string ⟨#[]⟩] 175)).cell? ⟨b, o + (p + 1), none⟩ = some (.int .u8 (d.toNat : Int)) := alloc_cell (alloc_cell (hb.get hd))
  have d42 : ((d.toNat : Int) == 42) = true := by simp; omega
  have HT : Hid (∀ w' : World, Below w.heap.size w w' → Calls Tryz.prog 113 #[.slice (some ⟨b, o, none⟩) n cap, .int .i64 ((p : Int) + 2)] w' fun e w2 => e = .returned (.tuple #[.string (baL (nameS (l.drop (p + 2)))), .int .i64 (nameN (p + 2) (l.drop (p + 2))), .int .i64 (nameE (l.drop (p + 2)))]) ∧ w2 = w') :=
    fun w' hb => rname_any (some ⟨b, o, none⟩) n cap (p + 2) _ l w' (by omega) HL.out (HI.out.next hb).isB hn hcap (by omega)
  have hzu := run_le partB (l.drop (p + 2))
  rw [List.length_drop, hl] at hzu
  clear hb c0 hc hl h63 hd h42
  obtain ⟨u, Hu⟩ : ∃ u, Hid (l.drop (p + 2) = u) := ⟨_, rfl⟩
  rw [Hu.out] at HT hzu ⊢
  rcases nameE_cases u with hE | hE | ⟨hE, hz, hS⟩
  · have HM : Hid (globR u = badR 4) := glob_bad hE (by decide)
    rw [nameS_no hE (by decide), nameN_no _ hE (by decide), hE] at HT
    clear hE
    go_enter Tryz.func80, Tryz.ntmps80
    go_wp2_with fail
    refine (HT.out _ HB0.out).mono ?_
    rintro e w1 ⟨rfl, rfl⟩
    go_wp2
    rw [HM.out]
    exact bodyPost_ret (v := .tuple #[.agg #[.int .i64 (7), .int .i64 (p), .int .i64 (0), .string (baL [])], .int .i64 (1), .int .i64 4]) (by simp [results, Tryz.results80, go_sem]) rfl ⟨rone_bad p 4 (by decide) 7 0 _ _, next_trans (alloc_below _ _) (alloc_below _ _)⟩
  · have HM : Hid (globR u = badR 2) := glob_bad hE (by decide)
    rw [nameS_no hE (by decide), nameN_no _ hE (by decide), hE] at HT
    clear hE
    go_enter Tryz.func80, Tryz.ntmps80
    go_wp2_with fail
    refine (HT.out _ HB0.out).mono ?_
    rintro e w1 ⟨rfl, rfl⟩
    go_wp2
    rw [HM.out]
    exact bodyPost_ret (v := .tuple #[.agg #[.int .i64 (7), .int .i64 (p), .int .i64 (0), .string (baL [])], .int .i64 (1), .int .i64 2]) (by simp [results, Tryz.results80, go_sem]) rfl ⟨rone_bad p 2 (by decide) 7 0 _ _, next_trans (alloc_below _ _) (alloc_below _ _)⟩
  · have hg0 := glob_no hE
    have hg1 := glob_ok hE
    rw [hS, nameN_ok _ hE, hE] at HT
    obtain ⟨z, HZ⟩ : ∃ z, Hid (nameZ u = z) := ⟨_, rfl⟩
    rw [show runN partB u = z from HZ.out] at hzu
    rw [HZ.out] at HT hg0 hg1 hz
    obtain ⟨N, HN⟩ : ∃ N, Hid (p + 2 + z = N) := ⟨_, rfl⟩
    rw [HN.out] at HT
    have hNn : N ≤ n := by rw [← HN.out]; omega
    clear hE hS
    by_cases he : N = n
    · have hei : ((N : Int) == (n : Int)) = true := by simp; omega
      have HM : Hid (globR u = badR 2) := hg0 (star_no (by rw [← Hu.out, List.length_drop, List.length_drop, HL.out]; have := HN.out; omega))
      clear hg0 hg1
      go_enter Tryz.func80, Tryz.ntmps80
      go_wp2_with fail
      refine (HT.out _ HB0.out).mono ?_
      rintro e w1 ⟨rfl, rfl⟩
      go_wp2
      rw [HM.out]
      exact bodyPost_ret (v := .tuple #[.agg #[.int .i64 (7), .int .i64 (p), .int .i64 (0), .string (baL (u.take z))], .int .i64 ((n : Int) + 1), .int .i64 2]) (by simp [results, Tryz.results80, go_sem]) rfl ⟨rone_bad p 2 (by decide) 7 0 _ _, next_trans (alloc_below _ _) (alloc_below _ _)⟩
    · have hei : ((N : Int) == (n : Int)) = false := by simp; omega
      have hlt : (N : Int) < (n : Int) := by omega
      have hkl : N < l.length := by rw [HL.out]; omega
      obtain ⟨x, HX⟩ : ∃ x, Hid (l[N]? = some x) := ⟨_, List.getElem?_eq_getElem hkl⟩
      have hst : starL (u.drop z) = decide (x.toNat = 42) := by
        rw [← Hu.out, List.drop_drop, HN.out, drop_at HX.out]; rfl
      have c3 : ((w.alloc (.cells #[.int .i64 0, .int .i64 0, .int .i64 0, .string ⟨#[]⟩] 175)).alloc (.cells #[.int .i64 0, .int .i64 (p : Int), .int .i64 0, .string ⟨#[]⟩] 175)).cell? ⟨b, o + N, none⟩ = some (.int .u8 (x.toNat : Int)) := alloc_cell (alloc_cell (HI.out.get HX.out))
      by_cases hx : x.toNat = 42
      · have dx : ((x.toNat : Int) == 42) = true := by simp; omega
        have HM : Hid (globR u = okR 7 0 (u.take z) (2 + z + 1)) := hg1 (by rw [hst]; simpa using hx)
        clear hg0 hg1 hst hx
        go_enter Tryz.func80, Tryz.ntmps80
        go_wp2_with fail
        refine (HT.out _ HB0.out).mono ?_
        rintro e w1 ⟨rfl, rfl⟩
        go_wp2
        rw [HM.out]
        exact bodyPost_ret (v := .tuple #[.agg #[.int .i64 (7), .int .i64 (p), .int .i64 (0), .string (baL (u.take z))], .int .i64 ((N : Int) + 1), .int .i64 0]) (by simp [results, Tryz.results80, go_sem]) rfl ⟨rone_ok p 7 0 _ _ _ (by have := HN.out; omega), next_trans (alloc_below _ _) (alloc_below _ _)⟩
      · have dx : ((x.toNat : Int) == 42) = false := by simp; omega
        have HM : Hid (globR u = badR 2) := hg0 (by rw [hst]; simpa using hx)
        clear hg0 hg1 hst hx
        go_enter Tryz.func80, Tryz.ntmps80
        go_wp2_with fail
        refine (HT.out _ HB0.out).mono ?_
        rintro e w1 ⟨rfl, rfl⟩
        go_wp2
        rw [HM.out]
        exact bodyPost_ret (v := .tuple #[.agg #[.int .i64 (7), .int .i64 (p), .int .i64 (0), .string (baL (u.take z))], .int .i64 ((N : Int) + 1), .int .i64 2]) (by simp [results, Tryz.results80, go_sem]) rfl ⟨rone_bad p 2 (by decide) 7 0 _ _, next_trans (alloc_below _ _) (alloc_below _ _)⟩
theorem word_num (w : List UInt8) (z : Nat) (h : shapeL w = true) : (wordOf w z).e = parE w ∧ ((wordOf w z).e = 0 → (wordOf w z).k = 1 ∧ (wordOf w z).i = parV w ∧ (wordOf w z).s = [] ∧ (wordOf w z).z = z) := by
  have h2 : parE w = 0 ∨ parE w = 11 := by
    unfold parE; rw [if_pos h]; unfold resE; split
    · exact .inl rfl
    · exact .inr rfl
  unfold wordOf
  rcases h2 with h2 | h2
  · rw [if_pos h2]
    exact ⟨h2.symm, fun _ => ⟨rfl, rfl, rfl, rfl⟩⟩
  · rw [if_neg (by rw [h2]; decide), if_pos h2]
    exact ⟨h2.symm, fun h3 => absurd h3 (by decide)⟩
theorem parE_no {w : List UInt8} (h : shapeL w = false) : parE w = 2 := by unfold parE; rw [if_neg (by rw [h]; decide)]
set_option maxHeartbeats 8000000 in
set_option maxRecDepth 4000 in
theorem rone_word (b o n cap p : Nat) (l : List UInt8) (c : UInt8) (w : World) (hl : l.length = n) (hn : n ≤ 100000) (hcap : n ≤ cap) (hp : p < n) (hb : Bs w b o l) (hc : l[p]? = some c) (h63 : ¬ (c.toNat = 40 ∨ c.toNat = 41 ∨ c.toNat = 126 ∨ c.toNat = 34 ∨ c.toNat = 63)) (m : Rd) (Hm : wordR (l.drop p) = m) :
    Calls Tryz.prog 80 #[.slice (some ⟨b, o, none⟩) n cap, .int .i64 (p : Int)] w fun e w' => ROne p m e ∧ Below w.heap.size w w' := by
  have hpi : (p : Int) < (n : Int) := by omega
  have c0 := hb.get hc
  have c1 : ((w.alloc (.cells #[.int .i64 0, .int .i64 0, .int .i64 0, .string ⟨#[]⟩] 175)).alloc (.cells #[.int .i64 0, .int .i64 (p : Int), .int .i64 0, .string ⟨#[]⟩] 175)).cell? ⟨b, o + p, none⟩ = some (.int .u8 (c.toNat : Int)) := alloc_cell (alloc_cell c0)
  have d40 : ((c.toNat : Int) == 40) = false := by simp; omega
  have d41 : ((c.toNat : Int) == 41) = false := by simp; omega
  have d126 : ((c.toNat : Int) == 126) = false := by simp; omega
  have d34 : ((c.toNat : Int) == 34) = false := by simp; omega
  have d63 : ((c.toNat : Int) == 63) = false := by simp; omega
  have hz := run_le signB (l.drop p)
  rw [List.length_drop, hl] at hz
  obtain ⟨z, HZ⟩ : ∃ z, Hid (runN signB (l.drop p) = z) := ⟨_, rfl⟩
  have HIn : Hid (∀ j c, l[p + j]? = some c → j < z → signB c = true) := fun j c h1 h2 => run_in h1 (by rw [HZ.out]; exact h2)
  have HOut : Hid (∀ c, l[p + z]? = some c → signB c = false) := fun c h1 => run_out (p := signB) (a := p) (by rw [HZ.out]; exact h1)
  rw [HZ.out] at hz
  have hsl : ∀ w, (Instr.slice 22 (.slice (some ⟨b, o, none⟩) n cap) (some (.int .i64 (p : Int))) (some (.int .i64 ((p : Int) + (z : Int)))) none).run Tryz.prog w = .ok (.slice (some ⟨b, o + p, none⟩) z (cap - p)) w := fun w => by
    rw [slice_mid _ n cap p (p + z) _ _ w rfl (by omega) (by omega) (by omega) hcap, show p + z - p = z by omega, from_at b o cap p (by omega)]
  have hlen : ((l.drop p).take z).length = z := by rw [List.length_take, List.length_drop, hl]; omega
  have hsz : (baL ((l.drop p).take z)).size = z := hlen
  have HM0 : Hid (z = 0 → m = badR 2) := by
    intro h; rw [← Hm]; unfold wordR; rw [if_pos (by rw [HZ.out]; exact h)]
  have HMs : z ≠ 0 → m = wordOf ((l.drop p).take z) z := fun h => by rw [← Hm]; exact word_some HZ.out h
  have HSh : Hid (∀ w : World, Calls Tryz.prog 67 #[.string (baL ((l.drop p).take z))] w fun e w' => e = .returned (.bool (shapeL ((l.drop p).take z))) ∧ w' = w) := fun w => shape_any _ w (by rw [hsz]; omega)
  have HPa : Hid (∀ w : World, Calls Tryz.prog 114 #[.string (baL ((l.drop p).take z))] w fun e w' => e = .returned (.tuple #[.int .i64 (parV ((l.drop p).take z)), .int .i64 (parE ((l.drop p).take z))]) ∧ w' = w) := fun w => rparse_any _ w (by rw [hsz]; omega)
  have HM4 : Hid (z ≠ 0 → shapeL ((l.drop p).take z) = false → 40 < z → m = badR 4) := by
    intro h1 h2 h3; rw [HMs h1]; unfold wordOf; rw [parE_no h2, if_neg (by decide), if_neg (by decide), if_pos h3]
  have HM2 : Hid (z ≠ 0 → shapeL ((l.drop p).take z) = false → ¬ 40 < z → m = okR 2 0 ((l.drop p).take z) z) := by
    intro h1 h2 h3; rw [HMs h1]; unfold wordOf; rw [parE_no h2, if_neg (by decide), if_neg (by decide), if_neg h3]
  have HM1 : Hid (z ≠ 0 → shapeL ((l.drop p).take z) = true → m.e = parE ((l.drop p).take z) ∧ (m.e = 0 → m.k = 1 ∧ m.i = parV ((l.drop p).take z) ∧ m.s = [] ∧ m.z = z)) := by
    intro h1 h2; rw [HMs h1]; exact word_num _ z h2
  have HCv : Hid (∀ w' : World, Below w.heap.size w w' → (convert 22 9 (.slice (some ⟨b, o + p, none⟩) z (cap - p))).run Tryz.prog w' = .ok (.string (baL ((l.drop p).take z))) w') :=
    fun w' hb2 => conv_at b (o + p) z (cap - p) _ w' hlen (((hb.next hb2).drop p).take z)
  obtain ⟨sh, HshE⟩ : ∃ sh, Hid (shapeL ((l.drop p).take z) = sh) := ⟨_, rfl⟩
  obtain ⟨V, HVE⟩ : ∃ V, Hid (parV ((l.drop p).take z) = V) := ⟨_, rfl⟩
  obtain ⟨E, HEE⟩ : ∃ E, Hid (parE ((l.drop p).take z) = E) := ⟨_, rfl⟩
  obtain ⟨X, HX⟩ : ∃ X, Hid (baL ((l.drop p).take z) = X) := ⟨_, rfl⟩
  rw [HX.out] at hsz HSh HPa HCv
  rw [HshE.out] at HSh HM4 HM2 HM1
  rw [HVE.out, HEE.out] at HPa HM1
  have HI : Hid (Bs w b o l) := hb
  have HL : Hid (l.length = n) := hl
  clear hb hl hlen HMs c0 hc h63
  go_enter Tryz.func80, Tryz.ntmps80
  go_wp2
  obtain ⟨W, HW0, HWb, r0, r1, r2, r3, q0, q1, q2, q3, hf0, hf1⟩ : ∃ W, Hid ((w.alloc (.cells #[.int .i64 0, .int .i64 0, .int .i64 0, .string ⟨#[]⟩] 175)).alloc (.cells #[.int .i64 0, .int .i64 (p : Int), .int .i64 0, .string ⟨#[]⟩] 175) = W) ∧ Hid (Below w.heap.size w W) ∧ W.cell? ⟨w.heap.size, 0, none⟩ = some (.int .i64 0) ∧ W.cell? ⟨w.heap.size, 1, none⟩ = some (.int .i64 0) ∧ W.cell? ⟨w.heap.size, 2, none⟩ = some (.int .i64 0) ∧ W.cell? ⟨w.heap.size, 3, none⟩ = some (.string ⟨#[]⟩)
      ∧ W.cell? ⟨w.heap.size + 1, 0, none⟩ = some (.int .i64 0) ∧ W.cell? ⟨w.heap.size + 1, 1, none⟩ = some (.int .i64 (p : Int)) ∧ W.cell? ⟨w.heap.size + 1, 2, none⟩ = some (.int .i64 0) ∧ W.cell? ⟨w.heap.size + 1, 3, none⟩ = some (.string ⟨#[]⟩) ∧ (∀ q, W.frozen? ⟨w.heap.size, q, none⟩ = false) ∧ (∀ q, W.frozen? ⟨w.heap.size + 1, q, none⟩ = false) :=
    ⟨_, rfl, next_trans (alloc_below _ _) (alloc_below _ _), by simp, by simp, by simp, by simp, by simp, by simp, by simp, by simp, by intro q; simp, by intro q; simp⟩
  rw [HW0.out]
  have hcv := HCv.out W HWb.out
  clear c1
  go_loop [17] (fun i => ∃ j : Nat, j ≤ z ∧ i = .int .i64 ((p : Int) + (j : Int))) (fun i => n - (intOf i).toNat)
  case atStart => exact ⟨0, Nat.zero_le _, by go_num⟩
  case round =>
    obtain ⟨j, hj, rfl⟩ := hrel
    by_cases hlt : p + j < n
    · have hli : (p : Int) + (j : Int) < (n : Int) := by omega
      have hkl : p + j < l.length := by rw [HL.out]; exact hlt
      obtain ⟨c, HC⟩ : ∃ c, Hid (l[p + j]? = some c) := ⟨_, List.getElem?_eq_getElem hkl⟩
      have c0 := (HI.out.next HWb.out).get HC.out
      by_cases hjz : j < z
      · have hpc : Hid (signB c = true) := HIn.out j c HC.out hjz
        have HP : Hid (∀ w : World, Calls Tryz.prog 68 #[.int .u8 (c.toNat : Int)] w fun e w' => e = .returned (.bool true) ∧ w' = w) := by
          intro w; rw [← hpc.out]; exact sign_any c w
        go_wp2_with (go_at_call 68; refine (HP.out _).mono ?_; rintro e w1 ⟨rfl, rfl⟩)
        go_round
        case rel => exact ⟨j + 1, by omega, by go_num⟩
        case measure => simp [intOf]; omega
      · obtain rfl : z = j := by omega
        have hpc : Hid (signB c = false) := HOut.out c HC.out
        have HP : Hid (∀ w : World, Calls Tryz.prog 68 #[.int .u8 (c.toNat : Int)] w fun e w' => e = .returned (.bool false) ∧ w' = w) := by
          intro w; rw [← hpc.out]; exact sign_any c w
        by_cases h0 : z = 0
        · have HE : Hid (m = badR 2) := HM0.out h0
          subst h0
          rw [Nat.add_zero] at c0
          simp only [Int.natCast_zero, Int.add_zero] at hsl hli
          go_wp2_with (go_at_call 68; refine (HP.out _).mono ?_; rintro e w1 ⟨rfl, rfl⟩)
          rw [HE.out]
          exact bodyPost_ret (v := .tuple #[.agg #[.int .i64 (0), .int .i64 (p), .int .i64 (0), .string (⟨#[]⟩)], .int .i64 0, .int .i64 2]) (by simp [results, Tryz.results80, go_sem, r0, r1, r2, r3]) rfl ⟨rone_bad p 2 (by decide) 0 0 _ _, below4 HWb.out _ (Nat.le_refl _) _ _ _ _⟩
        · have hi0 : ((z : Int) == 0) = false := by simp; omega
          cases sh
          · by_cases h40 : 40 < z
            · have hi : (40 : Int) < (z : Int) := by omega
              have HE : Hid (m = badR 4) := HM4.out h0 rfl h40
              go_wp2_with (first | (go_at_call 68; refine (HP.out _).mono ?_; rintro e w1 ⟨rfl, rfl⟩) | (go_at_call 67; refine (HSh.out _).mono ?_; rintro e w1 ⟨rfl, rfl⟩))
              rw [HE.out]
              exact bodyPost_ret (v := .tuple #[.agg #[.int .i64 (0), .int .i64 (p), .int .i64 (0), .string (⟨#[]⟩)], .int .i64 0, .int .i64 4]) (by simp [results, Tryz.results80, go_sem, r0, r1, r2, r3]) rfl ⟨rone_bad p 4 (by decide) 0 0 _ _, below4 HWb.out _ (Nat.le_refl _) _ _ _ _⟩
            · have hi : ¬ (40 : Int) < (z : Int) := by omega
              have HE : Hid (m = okR 2 0 ((l.drop p).take z) z) := HM2.out h0 rfl h40
              go_wp2_with (first | (go_at_call 68; refine (HP.out _).mono ?_; rintro e w1 ⟨rfl, rfl⟩) | (go_at_call 67; refine (HSh.out _).mono ?_; rintro e w1 ⟨rfl, rfl⟩))
              rw [HE.out]
              refine bodyPost_ret (v := .tuple #[.agg #[.int .i64 (2), .int .i64 (p), .int .i64 (0), .string (X)], .int .i64 ((p : Int) + (z : Int)), .int .i64 0]) (by simp [results, Tryz.results80, go_sem, r0, r1, r2, r3]) rfl ⟨?_, below4 ((HWb.out.setCell (le_block1 w 0) _).setCell (le_block1 w 3) _) _ (Nat.le_refl _) _ _ _ _⟩
              rw [← HX.out]
              exact rone_ok p 2 0 _ _ _ rfl
          · have HE := HM1.out h0 rfl
            go_wp2_with (first | (go_at_call 68; refine (HP.out _).mono ?_; rintro e w1 ⟨rfl, rfl⟩) | (go_at_call 67; refine (HSh.out _).mono ?_; rintro e w1 ⟨rfl, rfl⟩) | (go_at_call 114; refine (HPa.out _).mono ?_; rintro e w1 ⟨rfl, rfl⟩))
            refine bodyPost_ret (v := .tuple #[.agg #[.int .i64 (1), .int .i64 (p), .int .i64 (V), .string (⟨#[]⟩)], .int .i64 ((p : Int) + (z : Int)), .int .i64 E]) (by simp [results, Tryz.results80, go_sem, r0, r1, r2, r3]) rfl ⟨?_, below4 ((HWb.out.setCell (le_block1 w 0) _).setCell (le_block1 w 2) _) _ (Nat.le_refl _) _ _ _ _⟩
            exact ⟨1, V, ⟨#[]⟩, _, by rw [HE.1], fun h => ⟨(HE.2 h).1.symm, (HE.2 h).2.1.symm, by rw [(HE.2 h).2.2.1]; rfl, by rw [(HE.2 h).2.2.2]⟩⟩
    · have hli : ¬ (p : Int) + (j : Int) < (n : Int) := by omega
      obtain rfl : z = j := by omega
      by_cases h0 : z = 0
      · exact absurd hp (by omega)
      · have hi0 : ((z : Int) == 0) = false := by simp; omega
        cases sh
        · by_cases h40 : 40 < z
          · have hi : (40 : Int) < (z : Int) := by omega
            have HE : Hid (m = badR 4) := HM4.out h0 rfl h40
            go_wp2_with (go_at_call 67; refine (HSh.out _).mono ?_; rintro e w1 ⟨rfl, rfl⟩)
            rw [HE.out]
            exact bodyPost_ret (v := .tuple #[.agg #[.int .i64 (0), .int .i64 (p), .int .i64 (0), .string (⟨#[]⟩)], .int .i64 0, .int .i64 4]) (by simp [results, Tryz.results80, go_sem, r0, r1, r2, r3]) rfl ⟨rone_bad p 4 (by decide) 0 0 _ _, below4 HWb.out _ (Nat.le_refl _) _ _ _ _⟩
          · have hi : ¬ (40 : Int) < (z : Int) := by omega
            have HE : Hid (m = okR 2 0 ((l.drop p).take z) z) := HM2.out h0 rfl h40
            go_wp2_with (go_at_call 67; refine (HSh.out _).mono ?_; rintro e w1 ⟨rfl, rfl⟩)
            rw [HE.out]
            refine bodyPost_ret (v := .tuple #[.agg #[.int .i64 (2), .int .i64 (p), .int .i64 (0), .string (X)], .int .i64 ((p : Int) + (z : Int)), .int .i64 0]) (by simp [results, Tryz.results80, go_sem, r0, r1, r2, r3]) rfl ⟨?_, below4 ((HWb.out.setCell (le_block1 w 0) _).setCell (le_block1 w 3) _) _ (Nat.le_refl _) _ _ _ _⟩
            rw [← HX.out]
            exact rone_ok p 2 0 _ _ _ rfl
        · have HE := HM1.out h0 rfl
          go_wp2_with (first | (go_at_call 67; refine (HSh.out _).mono ?_; rintro e w1 ⟨rfl, rfl⟩) | (go_at_call 114; refine (HPa.out _).mono ?_; rintro e w1 ⟨rfl, rfl⟩))
          refine bodyPost_ret (v := .tuple #[.agg #[.int .i64 (1), .int .i64 (p), .int .i64 (V), .string (⟨#[]⟩)], .int .i64 ((p : Int) + (z : Int)), .int .i64 E]) (by simp [results, Tryz.results80, go_sem, r0, r1, r2, r3]) rfl ⟨?_, below4 ((HWb.out.setCell (le_block1 w 0) _).setCell (le_block1 w 2) _) _ (Nat.le_refl _) _ _ _ _⟩
          exact ⟨1, V, ⟨#[]⟩, _, by rw [HE.1], fun h => ⟨(HE.2 h).1.symm, (HE.2 h).2.1.symm, by rw [(HE.2 h).2.2.1]; rfl, by rw [(HE.2 h).2.2.2]⟩⟩
end Go.Proofs.YtnhbjhdkpbhioaaGreatDoor
namespace Go.Proofs.YtnhbjhdkpbhioaaGreatDoor
open Go.RowKit
theorem rone_any (b o n cap p : Nat) (l : List UInt8) (c : UInt8) (w : World) (hl : l.length = n) (hn : n ≤ 100000) (hcap : n ≤ cap) (hp : p < n) (hb : Bs w b o l) (hc : l[p]? = some c) (m : Rd) (hm : oneL (l.drop p) = m) :
    Calls Tryz.prog 80 #[.slice (some ⟨b, o, none⟩) n cap, .int .i64 (p : Int)] w fun e w' => ROne p m e ∧ Below w.heap.size w w' := by
  rw [drop_at hc] at hm
  have key : ∀ (K : Int), ((c.toNat = 40 ∧ K = 4) ∨ (c.toNat = 41 ∧ K = 5) ∨ (c.toNat = 126 ∧ K = 8)) → m = okR K 0 [] 1 → Calls Tryz.prog 80 #[.slice (some ⟨b, o, none⟩) n cap, .int .i64 (p : Int)] w fun e w' => ROne p m e ∧ Below w.heap.size w w' := by
    intro K hK e
    refine (rone_mark b o n cap p l c w hn hp hb hc K hK).mono ?_
    rintro e' w' ⟨rfl, hb2⟩
    rw [e]
    exact ⟨rone_ok p K 0 [] 1 _ rfl, hb2⟩
  by_cases k1 : c.toNat = 40
  · exact key 4 (.inl ⟨k1, rfl⟩) (by rw [← hm, one_open c _ k1])
  by_cases k2 : c.toNat = 41
  · exact key 5 (.inr (.inl ⟨k2, rfl⟩)) (by rw [← hm, one_close c _ k2])
  by_cases k3 : c.toNat = 126
  · exact key 8 (.inr (.inr ⟨k3, rfl⟩)) (by rw [← hm, one_not c _ k3])
  by_cases k4 : c.toNat = 34
  · exact rone_str b o n cap p l c w hl hn hp hb hc k4 m (by rw [Hid, ← hm, one_str c _ k4])
  by_cases k5 : c.toNat = 63
  · rw [one_var c _ k5] at hm
    by_cases h1 : p + 1 < n
    · have hkl : p + 1 < l.length := by omega
      obtain ⟨d, hd⟩ : ∃ d, l[p + 1]? = some d := ⟨_, List.getElem?_eq_getElem hkl⟩
      by_cases h42 : d.toNat = 42
      · have hs : starL (l.drop (p + 1)) = true := by rw [drop_at hd]; show decide (d.toNat = 42) = true; simpa using h42
        rw [var_glob hs, List.drop_drop] at hm
        rw [← hm]
        exact rone_glob b o n cap p l c w hl hn hcap hb hc k5 d hd h42 h1
      · have hs : starL (l.drop (p + 1)) = false := by rw [drop_at hd]; show decide (d.toNat = 42) = false; simpa using h42
        rw [var_plain hs] at hm
        rw [← hm]
        exact rone_plain1 b o n cap p l c w hl hn hcap hb hc k5 d hd h42 h1
    · have hs : starL (l.drop (p + 1)) = false := star_no (by rw [List.length_drop]; omega)
      rw [var_plain hs] at hm
      rw [← hm]
      exact rone_plain0 b o n cap p l c w hl hn hcap hb hc k5 (by omega)
  · rw [one_word c _ (by omega), ← drop_at hc] at hm
    exact rone_word b o n cap p l c w hl hn hcap hp hb hc (by omega) m hm
theorem inR : (Tryz.prog.info? 175).map (fun i => (i.zero, i.size, i.bytes)) = some (some (.agg #[.int .i64 (0), .int .i64 (0), .int .i64 (0), .string (⟨#[]⟩)]), 4, 40) := by kernel_rfl
theorem inR' : ∃ i, Tryz.prog.info? 175 = some i ∧ i.zero = some (.agg #[.int .i64 (0), .int .i64 (0), .int .i64 (0), .string (⟨#[]⟩)]) ∧ i.size = 4 ∧ i.bytes = 40 := by
  obtain ⟨i, h, e⟩ := Option.map_eq_some_iff.1 inR
  simp only [Prod.mk.injEq] at e
  exact ⟨i, h, e.1, e.2.1, e.2.2⟩
structure RScanR (w w' : World) (e : Ending) (r : Out) : Prop where
  bel : Below w.heap.size w w'
  res : ∃ v, e = .returned (.tuple #[v, .int .i64 (r.a : Int), .int .i64 r.e]) ∧ w'.ownsRow w.heap.size 175 4 v r.l.length (toksC r.l)
set_option maxHeartbeats 8000000 in
set_option maxRecDepth 4000 in
theorem rscan_any (ao : Option Addr) (n cap : Nat) (l : List UInt8) (w : World) (hl : l.length = n) (h : IsB w ao l) (hn : n ≤ 65536) (hc : n ≤ cap) :
    Calls Tryz.prog 38 #[.slice ao n cap] w fun e w' => RScanR w w' e (scanQ l 0 []) := by
  obtain ⟨i0, hi, hz0, hz1, hz2⟩ := inR'
  obtain ⟨R, HR⟩ : ∃ R, Hid (scanQ l 0 [] = R) := ⟨_, rfl⟩
  rw [HR.out]
  have HI : Hid (IsB w ao l) := h
  have HL : Hid (l.length = n) := hl
  have hni : ¬ (65536 : Int) < (n : Int) := by omega
  obtain ⟨B, HB⟩ : ∃ B, Hid (w.heap.size = B) := ⟨_, rfl⟩
  clear h hl
  go_enter Tryz.func38, Tryz.ntmps38
  go_wp2
  go_loopw [5, 6] (fun v i wr => ∃ (p : Nat) (acc : List Tk), p ≤ n ∧ i = .int .i64 p ∧ Hid (scanQ l p acc = R) ∧ Hid (wr.ownsRow B 175 4 v acc.length (toksC acc)) ∧ Hid (Below w.heap.size w wr) ∧ Hid (acc.length ≤ p)) (fun _ i _ => n - (intOf i).toNat)
  case atStart => exact ⟨0, [], Nat.zero_le _, rfl, HR, World.ownsRow_nil _ _ _ _, Below.refl _ _, Nat.zero_le _⟩
  case round =>
    obtain ⟨p, acc, hpn, rfl, HS, HO, HW, HA⟩ := hrel
    by_cases hlt : p < n
    · have hli : (p : Int) < (n : Int) := by omega
      have hpl : p < l.length := by rw [HL.out]; exact hlt
      obtain ⟨b, o, rfl, hbs⟩ := HI.out (by omega)
      have HI2 : Hid (Bs w b o l) := hbs
      obtain ⟨c, HC⟩ : ∃ c, Hid (l[p]? = some c) := ⟨_, List.getElem?_eq_getElem hpl⟩
      have c0 := (HI2.out.next HW.out).get HC.out
      clear hbs
      cases hb : blankB c
      · have HBl : Hid (∀ w : World, Calls Tryz.prog 79 #[.int .u8 (c.toNat : Int)] w fun e w' => e = .returned (.bool false) ∧ w' = w) := by
          intro w; rw [← hb]; exact rblank_any c w
        by_cases c59 : c.toNat = 59
        · have d1 : ((c.toNat : Int) == 59) = true := by simp; omega
          have HQ := Q_line' HC.out c59
          obtain ⟨hz1', hz2'⟩ := line_pos HC.out c59
          obtain ⟨z, HZ⟩ : ∃ z, Hid (runN lineB (l.drop p) = z) := ⟨_, rfl⟩
          have HIn : Hid (∀ j c, l[p + j]? = some c → j < z → lineB c = true) := fun j c h1 h2 => run_in h1 (by rw [HZ.out]; exact h2)
          have HOut : Hid (∀ c, l[p + z]? = some c → lineB c = false) := fun c h1 => run_out (p := lineB) (a := p) (by rw [HZ.out]; exact h1)
          rw [HZ.out] at HQ hz1' hz2'
          rw [HL.out] at hz2'
          have HS2 : Hid (scanQ l (p + z) acc = R) := by rw [Hid, ← HQ]; exact HS.out
          have HA2 : Hid (acc.length ≤ p + z) := by have := HA.out; rw [Hid]; omega
          clear c59 HQ hb
          go_wp2_with (go_at_call 79; refine (HBl.out _).mono ?_; rintro e w1 ⟨rfl, rfl⟩)
          clear c0
          go_loop [6] (fun i => ∃ j : Nat, j ≤ z ∧ i = .int .i64 ((p : Int) + (j : Int))) (fun i => n - (intOf i).toNat)
          case atStart => exact ⟨0, Nat.zero_le _, by go_num⟩
          case round =>
            obtain ⟨j, hj, rfl⟩ := hrel
            by_cases hlt2 : p + j < n
            · have hli2 : (p : Int) + (j : Int) < (n : Int) := by omega
              have hkl2 : p + j < l.length := by rw [HL.out]; exact hlt2
              obtain ⟨d, HD⟩ : ∃ d, Hid (l[p + j]? = some d) := ⟨_, List.getElem?_eq_getElem hkl2⟩
              have c2 := (HI2.out.next HW.out).get HD.out
              by_cases hjz : j < z
              · have hpc := HIn.out j d HD.out hjz
                have d10 : ((d.toNat : Int) == 10) = false := by
                  unfold lineB at hpc
                  have : d.toNat ≠ 10 := by intro e; simp [e] at hpc
                  simp; omega
                clear hpc
                go_wp2
                go_round
                case rel => exact ⟨j + 1, by omega, by go_num⟩
                case measure => simp [intOf]; omega
              · obtain rfl : z = j := by omega
                have hpc := HOut.out d HD.out
                have d10 : ((d.toNat : Int) == 10) = true := by
                  unfold lineB at hpc
                  have : d.toNat = 10 := by simpa using hpc
                  simp; omega
                clear hpc
                go_wp2
                go_round
                case rel => exact ⟨p + z, acc, by omega, by go_num, HS2, HO, HW, HA2⟩
                case measure => simp [intOf]; omega
            · have hli2 : ¬ (p : Int) + (j : Int) < (n : Int) := by omega
              obtain rfl : z = j := by omega
              go_wp2
              go_round
              case rel => exact ⟨p + z, acc, by omega, by go_num, HS2, HO, HW, HA2⟩
              case measure => simp [intOf]; omega
        · have d1 : ((c.toNat : Int) == 59) = false := by simp; omega
          have HT : Hid (stopL l p) := by
            intro x hx
            rw [HC.out] at hx
            obtain rfl := Option.some.inj hx
            exact ⟨hb, c59⟩
          obtain ⟨m, Hm⟩ : ∃ m, Hid (oneL (l.drop p) = m) := ⟨_, rfl⟩
          have HRd : Hid (∀ w' : World, Below w.heap.size w w' → Calls Tryz.prog 80 #[.slice (some ⟨b, o, none⟩) n cap, .int .i64 (p : Int)] w' fun e w2 => ROne p m e ∧ Below w'.heap.size w' w2) :=
            fun w' hb => rone_any b o n cap p l c w' HL.out (by omega) hc hlt (HI2.out.next hb) HC.out m Hm.out
          clear c59 hb
          by_cases he : m.e = 0
          · obtain ⟨hz3, hz4⟩ := one_bd hpl Hm.out he
            have HS1 : Hid (scanQ l (p + m.z) (acc ++ [⟨m.k, p, m.i, m.s⟩]) = R) := by rw [Hid, ← Q_tok' HC.out HT.out Hm.out he]; exact HS.out
            rw [HL.out] at hz4
            clear Hm HS HT
            go_wp2_with (first | (go_at_call 79; refine (HBl.out _).mono ?_; rintro e w1 ⟨rfl, rfl⟩) | (go_at_call 80; refine (HRd.out _ HW.out).mono ?_))
            rintro e w2 ⟨⟨k, i, s, z, rfl, hm⟩, hb2⟩
            obtain ⟨rfl, rfl, rfl, rfl⟩ := hm he
            have HB2 : Hid (Below w.heap.size w w2) := next_trans HW.out hb2
            have HO2 : Hid (w2.ownsRow B 175 4 u5 acc.length (toksC acc)) := own_next HO.out hb2
            clear hb2 HRd hm c0
            obtain ⟨me, mk, mi, ms, mz⟩ := m
            simp only at he HS1 hz3 hz4
            subst he
            simp only
            go_wp2_with (at_builtin; refine wpList_append_own _ rfl _ _ 97 rfl B 175 i0 (.agg #[.int .i64 (0), .int .i64 (0), .int .i64 (0), .string (⟨#[]⟩)]) 4 40 Tryz.underlying97 hi hz0 hz1 hz2 rfl (by decide) _ _ _ rfl ((HO2.out.alloc _).alloc _) ⟨w2.heap.size + 1, 0, none⟩ 1 1 [.int .i64 mk, .int .i64 (p : Int), .int .i64 mi, .string (baL ms)] rfl rfl ?c1 ?c2 ?c3 ?c4 ?c5 ?_)
            case c1 =>
              intro j u hj
              match j, hj with
              | 0, hj => simp at hj; subst hj; simp [Addr.add]
              | 1, hj => simp at hj; subst hj; simp [Addr.add]
              | 2, hj => simp at hj; subst hj; simp [Addr.add]
              | 3, hj => simp at hj; subst hj; simp [Addr.add]
            case c2 => intro u hu; simp at hu; rcases hu with rfl | rfl | rfl | rfl <;> rfl
            case c3 => have := HA.out; unfold maxLen; omega
            case c4 => have := HA.out; omega
            case c5 => have := HB2.out.size; have := HB.out; simp; omega
            intro s2 w3 ho hg _
            have HO3 : Hid (w3.ownsRow B 175 4 s2 (acc ++ [(⟨mk, p, mi, ms⟩ : Tk)]).length (toksC (acc ++ [(⟨mk, p, mi, ms⟩ : Tk)]))) := by
              rw [← toks_snoc, Hid, List.length_append]; exact ho
            have HB3 : Hid (Below w.heap.size w w3) := by
              have hs := HB2.out.size
              refine HB2.out.trans ((((Below.refl _ w2).alloc hs _).alloc (by simp; omega) _).grown hg (by simp; omega) (fun k hk => ?_))
              have := (HO2.out.lt k hk).1
              rw [HB.out]; exact this
            have HA3 : Hid ((acc ++ [(⟨mk, p, mi, ms⟩ : Tk)]).length ≤ p + mz) := by have := HA.out; rw [Hid, List.length_append, List.length_singleton]; omega
            clear ho hg
            go_wp2
            go_round
            case rel => exact ⟨p + mz, acc ++ [⟨mk, p, mi, ms⟩], hz4, by go_num, HS1, HO3, HB3, HA3⟩
            case measure => simp [intOf]; omega
          · have hei : (m.e == 0) = false := by simpa using he
            have HE : Hid (R = ⟨[], p, m.e⟩) := by rw [Hid, ← HS.out]; exact Q_bad' HC.out HT.out Hm.out he acc
            clear Hm HS HT
            go_wp2_with (first | (go_at_call 79; refine (HBl.out _).mono ?_; rintro e w1 ⟨rfl, rfl⟩) | (go_at_call 80; refine (HRd.out _ HW.out).mono ?_))
            rintro e w2 ⟨⟨k, i, s, z, rfl, hm⟩, hb2⟩
            have HB2 : Hid (Below w.heap.size w w2) := next_trans HW.out hb2
            clear hb2 HRd hm c0 he
            obtain ⟨me, mk, mi, ms, mz⟩ := m
            simp only at hei HE ⊢
            go_wp2
            rw [HE.out]
            exact bodyPost_ret (v := .tuple #[.slice none 0 0, .int .i64 (p : Int), .int .i64 me]) (by simp [results, Tryz.results38, go_sem]) rfl ⟨next_trans HB2.out (alloc_below _ _), _, rfl, World.ownsRow_nil _ _ _ _⟩
      · have HBl : Hid (∀ w : World, Calls Tryz.prog 79 #[.int .u8 (c.toNat : Int)] w fun e w' => e = .returned (.bool true) ∧ w' = w) := by
          intro w; rw [← hb]; exact rblank_any c w
        have HS2 : Hid (scanQ l (p + 1) acc = R) := by rw [Hid, ← Q_blank' HC.out hb]; exact HS.out
        have HA2 : Hid (acc.length ≤ p + 1) := by have := HA.out; rw [Hid]; omega
        clear hb
        go_wp2_with (go_at_call 79; refine (HBl.out _).mono ?_; rintro e w1 ⟨rfl, rfl⟩)
        go_round
        case rel => exact ⟨p + 1, acc, by omega, by go_num, HS2, HO, HW, HA2⟩
        case measure => simp [intOf]; omega
    · have hli : ¬ (p : Int) < (n : Int) := by omega
      have HE : Hid (R = ⟨acc, 0, 0⟩) := by rw [Hid, ← HS.out]; exact Q_end l p acc (by rw [HL.out]; omega)
      go_wp2
      rw [HE.out]
      exact bodyPost_ret (v := .tuple #[u5, .int .i64 0, .int .i64 0]) (by simp [results, Tryz.results38, go_sem]) rfl ⟨HW.out, _, rfl, by rw [HB.out]; exact HO.out⟩
end Go.Proofs.YtnhbjhdkpbhioaaGreatDoor
