/- Contracts of the reference's blank, text, name. -/
import Derived.Test.YtlnkeebfaninfaaGreatDoorLexStr
namespace Go.Proofs.YtlnkeebfaninfaaGreatDoor
open Go.RowKit

set_option maxHeartbeats 1000000 in
theorem rblank_any (c : UInt8) (w : World) :
    Calls Tryz.prog 16 #[.int .u8 (c.toNat : Int)] w fun e w' => e = .returned (.bool (blankB c)) ∧ w' = w := by
  by_cases h1 : c.toNat = 32
  · have d1 : ((c.toNat : Int) == 32) = true := by simp; omega
    have HB : Hid (blankB c = true) := by unfold blankB; exact decide_eq_true (by omega)
    go_enter Tryz.func16, Tryz.ntmps16
    go_wp2
    go_ret
    exact ⟨ret_bool HB.out.symm, rfl⟩
  have d1 : ((c.toNat : Int) == 32) = false := by simp; omega
  by_cases h2 : c.toNat = 9
  · have d2 : ((c.toNat : Int) == 9) = true := by simp; omega
    have HB : Hid (blankB c = true) := by unfold blankB; exact decide_eq_true (by omega)
    clear h1
    go_enter Tryz.func16, Tryz.ntmps16
    go_wp2
    go_ret
    exact ⟨ret_bool HB.out.symm, rfl⟩
  have d2 : ((c.toNat : Int) == 9) = false := by simp; omega
  by_cases h3 : c.toNat = 10
  · have d3 : ((c.toNat : Int) == 10) = true := by simp; omega
    have HB : Hid (blankB c = true) := by unfold blankB; exact decide_eq_true (by omega)
    clear h1 h2
    go_enter Tryz.func16, Tryz.ntmps16
    go_wp2
    go_ret
    exact ⟨ret_bool HB.out.symm, rfl⟩
  have d3 : ((c.toNat : Int) == 10) = false := by simp; omega
  by_cases h4 : c.toNat = 13
  · have d4 : ((c.toNat : Int) == 13) = true := by simp; omega
    have HB : Hid (blankB c = true) := by unfold blankB; exact decide_eq_true (by omega)
    clear h1 h2 h3
    go_enter Tryz.func16, Tryz.ntmps16
    go_wp2
    go_ret
    exact ⟨ret_bool HB.out.symm, rfl⟩
  have d4 : ((c.toNat : Int) == 13) = false := by simp; omega
  have HB : Hid (blankB c = false) := by unfold blankB; exact decide_eq_false (by omega)
  clear h1 h2 h3 h4
  go_enter Tryz.func16, Tryz.ntmps16
  go_wp2
  go_ret
  exact ⟨ret_bool HB.out.symm, rfl⟩

/-- Where what was read ends, if it was. -/
def offZ (p : Nat) (R : Rd) : Int := if R.e = 0 then (p : Int) + (R.z : Int) else 0
theorem ret_sii {s t : ByteArray} {a b c d : Int} (h : s = t) (h2 : a = b) (h3 : c = d) : Ending.returned (.tuple #[.string s, .int .i64 a, .int .i64 c]) = .returned (.tuple #[.string t, .int .i64 b, .int .i64 d]) := by rw [h, h2, h3]
theorem ba_snoc (acc : List UInt8) (c : UInt8) : baL acc ++ chr (c.toNat : Int) = baL (acc ++ [c]) := by
  apply ba_ext
  rw [ba_app, chr_list, baL_list, baL_list]
  simp

set_option maxHeartbeats 4000000 in
set_option maxRecDepth 4000 in
theorem rtext_str (b o n cap p : Nat) (l : List UInt8) (w : World) (hl : l.length = n) (h : Bs w b o l) (hn : n ≤ 100000) (hp : p + 1 ≤ n) (R : Rd) (HR : Hid (strA (l.drop (p + 1)) [] 1 = R)) :
    Calls Tryz.prog 30 #[.slice (some ⟨b, o, none⟩) n cap, .int .i64 ((p : Int) + 1)] w fun e w' => e = .returned (.tuple #[.string (baL R.s), .int .i64 (offZ p R), .int .i64 R.e]) ∧ Below w.heap.size w w' := by
  have HI : Hid (Bs w b o l) := h
  have HL : Hid (l.length = n) := hl
  clear h hl
  go_enter Tryz.func30, Tryz.ntmps30
  go_wp2
  go_loopw [1, 7] (fun i v wr => ∃ (k : Nat) (acc : List UInt8), 1 ≤ k ∧ p + k ≤ n ∧ i = .int .i64 ((p : Int) + (k : Int)) ∧ v = .string (baL acc) ∧ Hid (strA (l.drop (p + k)) acc k = R) ∧ Hid (Below w.heap.size w wr) ∧ Hid (acc.length ≤ k)) (fun i _ _ => n - (intOf i).toNat)
  case atStart => exact ⟨1, [], Nat.le_refl _, hp, rfl, rfl, HR, Below.refl _ _, Nat.zero_le _⟩
  case round =>
    obtain ⟨k, acc, hk1, hk, rfl, rfl, HS, HW, HA⟩ := hrel
    have hsz : (baL acc).size ≤ k := by rw [baL_size]; exact HA.out
    by_cases hlt : p + k < n
    · have hli : (p : Int) + (k : Int) < (n : Int) := by omega
      have hkl : p + k < l.length := by rw [HL.out]; exact hlt
      obtain ⟨c, HC⟩ : ∃ c, Hid (l[p + k]? = some c) := ⟨_, List.getElem?_eq_getElem hkl⟩
      have c0 := (HI.out.next HW.out).get HC.out
      by_cases c34 : c.toNat = 34
      · have d1 : ((c.toNat : Int) == 34) = true := by simp; omega
        have HM : Hid (endR acc k = R) := by rw [Hid, ← HS.out, drop_at HC.out, strA_end _ _ _ _ c34]
        clear HS c34
        by_cases hz : 1000 < acc.length
        · have hzi : (1000 : Int) < ((baL acc).size : Int) := by rw [baL_size]; omega
          have HE : Hid (R = badR 4) := by rw [Hid, ← HM.out]; unfold endR; rw [if_pos hz]
          go_wp2
          rw [HE.out]
          exact bodyPost_ret (v := .tuple #[.string (baL []), .int .i64 0, .int .i64 4]) (by simp [results, Tryz.results30, go_sem, baL]) rfl ⟨rfl, HW.out⟩
        · have hzi : ¬ (1000 : Int) < ((baL acc).size : Int) := by rw [baL_size]; omega
          have HE : Hid (R = okR 3 0 acc (k + 1)) := by rw [Hid, ← HM.out]; unfold endR; rw [if_neg hz]
          go_wp2
          rw [HE.out]
          refine bodyPost_ret (v := .tuple #[.string (baL acc), .int .i64 ((p : Int) + (k : Int) + 1), .int .i64 0]) (by simp [results, Tryz.results30, go_sem]) rfl ⟨ret_sii rfl ?_ rfl, HW.out⟩
          unfold offZ okR
          simp; omega
      · have d1 : ((c.toNat : Int) == 34) = false := by simp; omega
        by_cases c92 : c.toNat = 92
        · have d2 : ((c.toNat : Int) == 92) = true := by simp; omega
          by_cases hz : p + k + 1 = n
          · have hzi : ((p : Int) + (k : Int) + 1 == (n : Int)) = true := by simp; omega
            have HE : Hid (R = badR 3) := by rw [Hid, ← HS.out, drop_at HC.out, List.drop_eq_nil_of_le (by rw [HL.out]; omega), strA_esc0 _ _ _ c92]
            clear c34 c92
            go_wp2
            rw [HE.out]
            exact bodyPost_ret (v := .tuple #[.string (baL []), .int .i64 0, .int .i64 3]) (by simp [results, Tryz.results30, go_sem, baL]) rfl ⟨rfl, HW.out⟩
          · have hzi : ((p : Int) + (k : Int) + 1 == (n : Int)) = false := by simp; omega
            have hzl : (p : Int) + (k : Int) + 1 < (n : Int) := by omega
            have hkl2 : p + k + 1 < l.length := by rw [HL.out]; omega
            obtain ⟨d, HD⟩ : ∃ d, Hid (l[p + k + 1]? = some d) := ⟨_, List.getElem?_eq_getElem hkl2⟩
            have HS2 : Hid (strA (l.drop (p + (k + 2))) (acc ++ [d]) (k + 2) = R) := by rw [Hid, ← HS.out, drop_at HC.out, drop_at HD.out, strA_esc _ _ _ _ _ c92]; rfl
            have c1 := (HI.out.next HW.out).get HD.out
            have hcv := conv_one wr (d.toNat : Int)
            have hcz := chr_size (d.toNat : Int)
            have HX : Hid (baL acc ++ chr (d.toNat : Int) = baL (acc ++ [d])) := ba_snoc acc d
            have HB : Hid (Below w.heap.size w (wr.alloc (.cells #[.int .u8 (d.toNat : Int)] 5))) := next_trans HW.out (alloc_below _ _)
            have HA2 : Hid ((acc ++ [d]).length ≤ k + 2) := by have := HA.out; rw [Hid, List.length_append, List.length_singleton]; omega
            clear c34 c92
            go_wp2
            go_round
            case rel => exact ⟨k + 2, acc ++ [d], by omega, by omega, by go_num, by rw [HX.out], HS2, HB, HA2⟩
            case measure => simp [intOf]; omega
        · have d2 : ((c.toNat : Int) == 92) = false := by simp; omega
          have HS2 : Hid (strA (l.drop (p + (k + 1))) (acc ++ [c]) (k + 1) = R) := by rw [Hid, ← HS.out, drop_at HC.out, strA_one _ _ _ _ c34 c92]; rfl
          have hcv := conv_one wr (c.toNat : Int)
          have hcz := chr_size (c.toNat : Int)
          have HX : Hid (baL acc ++ chr (c.toNat : Int) = baL (acc ++ [c])) := ba_snoc acc c
          have HB : Hid (Below w.heap.size w (wr.alloc (.cells #[.int .u8 (c.toNat : Int)] 5))) := next_trans HW.out (alloc_below _ _)
          have HA2 : Hid ((acc ++ [c]).length ≤ k + 1) := by have := HA.out; rw [Hid, List.length_append, List.length_singleton]; omega
          clear c34 c92
          go_wp2
          go_round
          case rel => exact ⟨k + 1, acc ++ [c], by omega, by omega, by go_num, by rw [HX.out], HS2, HB, HA2⟩
          case measure => simp [intOf]; omega
    · have hli : ¬ (p : Int) + (k : Int) < (n : Int) := by omega
      have HE : Hid (R = badR 3) := by rw [Hid, ← HS.out, List.drop_eq_nil_of_le (by rw [HL.out]; omega), strA_nil]
      go_wp2
      rw [HE.out]
      exact bodyPost_ret (v := .tuple #[.string (baL []), .int .i64 0, .int .i64 3]) (by simp [results, Tryz.results30, go_sem, baL]) rfl ⟨rfl, HW.out⟩
theorem slice_mid (ao : Option Addr) (n cap a k : Nat) (A K : Int) (w : World) (hA : A = (a : Int)) (hK : K = (k : Int)) (ha : a ≤ k) (hk : k ≤ n) (hn : n ≤ cap) :
    (Instr.slice 22 (.slice ao n cap) (some (.int .i64 A)) (some (.int .i64 K)) none).run Tryz.prog w = .ok (.slice (fromA ao cap a) (k - a) (cap - a)) w := by
  subst hA hK
  have hz : Tryz.t5.size = 1 := by kernel_rfl
  have h := run_slice_lh (P := Tryz.prog) w 22 ao n cap (by kernel_rfl) .i64 .i64 (a : Int) (k : Int) (by omega) (by omega) (by omega)
  rw [h]
  have he : Tryz.prog.elem 22 = 5 := by kernel_rfl
  rw [he]
  simp [sizeOf, hz, sliced, fromA, Result.andThen]
theorem get_drop {l : List UInt8} {p j : Nat} {c : UInt8} (h : l[p + j]? = some c) : (l.drop p)[j]? = some c := by rw [List.getElem?_drop]; exact h
/-- How far a run goes: where it is. -/
theorem run_in {p : UInt8 → Bool} {l : List UInt8} {a j : Nat} {c : UInt8} (h : l[a + j]? = some c) (hj : j < runN p (l.drop a)) : p c = true := by
  have h1 := run_all p (l.drop a)
  rw [List.all_eq_true] at h1
  refine h1 c ?_
  refine List.mem_of_getElem? (i := j) ?_
  rw [List.getElem?_take_of_lt hj]
  exact get_drop h
theorem run_stop {p : UInt8 → Bool} : ∀ {l : List UInt8} {c : UInt8}, l[runN p l]? = some c → p c = false
  | [], c, h => by simp at h
  | d :: r, c, h => by
    rw [run_cons] at h
    by_cases hd : p d = true
    · rw [if_pos hd, List.getElem?_cons_succ] at h
      exact run_stop h
    · rw [if_neg hd] at h
      simp at h
      subst h
      simpa using hd
theorem run_out {p : UInt8 → Bool} {l : List UInt8} {a : Nat} {c : UInt8} (h : l[a + runN p (l.drop a)]? = some c) : p c = false := run_stop (get_drop h)

/-- Where a name ends, if it is one. -/
def nameN (p : Nat) (u : List UInt8) : Int := if nameE u = 0 then ((p + nameZ u : Nat) : Int) else 0
theorem nameN_no {u : List UInt8} {e : Int} (p : Nat) (h : nameE u = e) (h2 : e ≠ 0) : nameN p u = 0 := by unfold nameN; rw [if_neg (by rw [h]; exact h2)]
theorem nameN_ok {u : List UInt8} (p : Nat) (h : nameE u = 0) : nameN p u = ((p + nameZ u : Nat) : Int) := by unfold nameN; rw [if_pos h]
theorem IsB.from {w : World} {ao : Option Addr} {cap : Nat} {l : List UInt8} (h : IsB w ao l) (k : Nat) (hc : l.length ≤ cap) : IsB w (fromA ao cap k) (l.drop k) := fun hl => by
  rw [List.length_drop] at hl
  obtain ⟨b, o, rfl, h2⟩ := h (by omega)
  exact from_isB h2 k hc (by rw [List.length_drop]; exact hl)

set_option maxHeartbeats 4000000 in
set_option maxRecDepth 4000 in
theorem rname_any (ao : Option Addr) (n cap p : Nat) (P : Int) (l : List UInt8) (w : World) (hP : P = (p : Int)) (hl : l.length = n) (h : IsB w ao l) (hn : n ≤ 100000) (hc : n ≤ cap) (hp : p ≤ n) :
    Calls Tryz.prog 31 #[.slice ao n cap, .int .i64 P] w fun e w' => e = .returned (.tuple #[.string (baL (nameS (l.drop p))), .int .i64 (nameN p (l.drop p)), .int .i64 (nameE (l.drop p))]) ∧ w' = w := by
  subst hP
  have hz := run_le partB (l.drop p)
  rw [List.length_drop, hl] at hz
  obtain ⟨z, HZ⟩ : ∃ z, Hid (runN partB (l.drop p) = z) := ⟨_, rfl⟩
  have HIn : Hid (∀ j c, l[p + j]? = some c → j < z → partB c = true) := fun j c h1 h2 => run_in h1 (by rw [HZ.out]; exact h2)
  have HOut : Hid (∀ c, l[p + z]? = some c → partB c = false) := fun c h1 => run_out (p := partB) (a := p) (by rw [HZ.out]; exact h1)
  rw [HZ.out] at hz
  have hsl : ∀ w, (Instr.slice 22 (.slice ao n cap) (some (.int .i64 (p : Int))) (some (.int .i64 ((p : Int) + (z : Int)))) none).run Tryz.prog w = .ok (.slice (fromA ao cap p) z (cap - p)) w := fun w => by
    rw [slice_mid ao n cap p (p + z) _ _ w rfl (by omega) (by omega) (by omega) hc, show p + z - p = z by omega]
  have hlen : ((l.drop p).take z).length = z := by rw [List.length_take, List.length_drop, hl]; omega
  have hcv := conv_isB (fromA ao cap p) z (cap - p) ((l.drop p).take z) w hlen ((h.from p (by omega)).take z)
  have hsz : (baL ((l.drop p).take z)).size = z := hlen
  have HG : Hid (∀ w : World, Calls Tryz.prog 50 #[.string (baL ((l.drop p).take z))] w fun e w' => e = .returned (.bool (goodL ((l.drop p).take z))) ∧ w' = w) := fun w => rgood_any _ w (by rw [hsz]; unfold maxLen; omega)
  have HLong : Hid (40 < z → nameE (l.drop p) = 4) := fun h1 => nameE_long (by rw [HZ.out]; exact h1)
  have HNone : Hid (¬ 40 < z → goodL ((l.drop p).take z) = false → nameE (l.drop p) = 2) := fun h1 h2 => nameE_none (by rw [HZ.out]; exact h1) (by rw [HZ.out]; exact h2)
  have HGood : Hid (¬ 40 < z → goodL ((l.drop p).take z) = true → nameE (l.drop p) = 0) := fun h1 h2 => nameE_good (by rw [HZ.out]; exact h1) (by rw [HZ.out]; exact h2)
  obtain ⟨X, HX⟩ : ∃ X, Hid (baL ((l.drop p).take z) = X) := ⟨_, rfl⟩
  obtain ⟨g, Hg⟩ : ∃ g, Hid (goodL ((l.drop p).take z) = g) := ⟨_, rfl⟩
  rw [HX.out] at hcv hsz HG
  rw [Hg.out] at HG HNone HGood
  have HI : Hid (IsB w ao l) := h
  have HL : Hid (l.length = n) := hl
  clear h hl hlen
  go_enter Tryz.func31, Tryz.ntmps31
  go_wp2
  go_loop [7] (fun i => ∃ j : Nat, j ≤ z ∧ i = .int .i64 ((p : Int) + (j : Int))) (fun i => n - (intOf i).toNat)
  case atStart => exact ⟨0, Nat.zero_le _, by go_num⟩
  case round =>
    obtain ⟨j, hj, rfl⟩ := hrel
    by_cases hlt : p + j < n
    · have hli : (p : Int) + (j : Int) < (n : Int) := by omega
      have hkl : p + j < l.length := by rw [HL.out]; exact hlt
      obtain ⟨b, o, rfl, hbs⟩ := HI.out (by omega)
      obtain ⟨c, HC⟩ : ∃ c, Hid (l[p + j]? = some c) := ⟨_, List.getElem?_eq_getElem hkl⟩
      have c0 := hbs.get HC.out
      have HB : Hid (Bs w b o l) := hbs
      clear hbs
      by_cases hjz : j < z
      · have hpc : Hid (partI (c.toNat : Int) = true) := HIn.out j c HC.out hjz
        have HP : Hid (∀ w : World, Calls Tryz.prog 49 #[.int .u8 (c.toNat : Int)] w fun e w' => e = .returned (.bool true) ∧ w' = w) := by
          intro w; rw [← hpc.out]; exact part_any _ w
        go_wp2_with (go_at_call 49; refine (HP.out _).mono ?_; rintro e w1 ⟨rfl, rfl⟩)
        go_round
        case rel => exact ⟨j + 1, by omega, by go_num⟩
        case measure => simp [intOf]; omega
      · obtain rfl : z = j := by omega
        have hpc : Hid (partI (c.toNat : Int) = false) := HOut.out c HC.out
        have HP : Hid (∀ w : World, Calls Tryz.prog 49 #[.int .u8 (c.toNat : Int)] w fun e w' => e = .returned (.bool false) ∧ w' = w) := by
          intro w; rw [← hpc.out]; exact part_any _ w
        by_cases h40 : 40 < z
        · have hi : (40 : Int) < (z : Int) := by omega
          have HE : Hid (nameE (l.drop p) = 4) := HLong.out h40
          go_wp2_with (go_at_call 49; refine (HP.out _).mono ?_; rintro e w1 ⟨rfl, rfl⟩)
          exact bodyPost_ret (v := .tuple #[.string (baL []), .int .i64 0, .int .i64 4]) (by simp [results, Tryz.results31, go_sem, baL]) rfl ⟨by rw [nameS_no HE.out (by decide), nameN_no p HE.out (by decide), HE.out], rfl⟩
        · have hi : ¬ (40 : Int) < (z : Int) := by omega
          cases g
          · have HE : Hid (nameE (l.drop p) = 2) := HNone.out h40 rfl
            go_wp2_with (first | (go_at_call 49; refine (HP.out _).mono ?_; rintro e w1 ⟨rfl, rfl⟩) | (go_at_call 50; refine (HG.out _).mono ?_; rintro e w1 ⟨rfl, rfl⟩))
            exact bodyPost_ret (v := .tuple #[.string (baL []), .int .i64 0, .int .i64 2]) (by simp [results, Tryz.results31, go_sem, baL]) rfl ⟨by rw [nameS_no HE.out (by decide), nameN_no p HE.out (by decide), HE.out], rfl⟩
          · have HE : Hid (nameE (l.drop p) = 0) := HGood.out h40 rfl
            have HS : Hid (nameS (l.drop p) = (l.drop p).take z) := by unfold nameS; rw [Hid, if_pos HE.out, show nameZ (l.drop p) = z from HZ.out]
            go_wp2_with (first | (go_at_call 49; refine (HP.out _).mono ?_; rintro e w1 ⟨rfl, rfl⟩) | (go_at_call 50; refine (HG.out _).mono ?_; rintro e w1 ⟨rfl, rfl⟩))
            refine bodyPost_ret (v := .tuple #[.string X, .int .i64 ((p : Int) + (z : Int)), .int .i64 0]) (by simp [results, Tryz.results31, go_sem]) rfl ⟨?_, rfl⟩
            rw [HS.out, nameN_ok p HE.out, HE.out, HX.out, show nameZ (l.drop p) = z from HZ.out, Int.natCast_add]
    · have hli : ¬ (p : Int) + (j : Int) < (n : Int) := by omega
      obtain rfl : z = j := by omega
      by_cases h40 : 40 < z
      · have hi : (40 : Int) < (z : Int) := by omega
        have HE : Hid (nameE (l.drop p) = 4) := HLong.out h40
        go_wp2
        exact bodyPost_ret (v := .tuple #[.string (baL []), .int .i64 0, .int .i64 4]) (by simp [results, Tryz.results31, go_sem, baL]) rfl ⟨by rw [nameS_no HE.out (by decide), nameN_no p HE.out (by decide), HE.out], rfl⟩
      · have hi : ¬ (40 : Int) < (z : Int) := by omega
        cases g
        · have HE : Hid (nameE (l.drop p) = 2) := HNone.out h40 rfl
          go_wp2_with (go_at_call 50; refine (HG.out _).mono ?_; rintro e w1 ⟨rfl, rfl⟩)
          exact bodyPost_ret (v := .tuple #[.string (baL []), .int .i64 0, .int .i64 2]) (by simp [results, Tryz.results31, go_sem, baL]) rfl ⟨by rw [nameS_no HE.out (by decide), nameN_no p HE.out (by decide), HE.out], rfl⟩
        · have HE : Hid (nameE (l.drop p) = 0) := HGood.out h40 rfl
          have HS : Hid (nameS (l.drop p) = (l.drop p).take z) := by unfold nameS; rw [Hid, if_pos HE.out, show nameZ (l.drop p) = z from HZ.out]
          go_wp2_with (go_at_call 50; refine (HG.out _).mono ?_; rintro e w1 ⟨rfl, rfl⟩)
          refine bodyPost_ret (v := .tuple #[.string X, .int .i64 ((p : Int) + (z : Int)), .int .i64 0]) (by simp [results, Tryz.results31, go_sem]) rfl ⟨?_, rfl⟩
          rw [HS.out, nameN_ok p HE.out, HE.out, HX.out, show nameZ (l.drop p) = z from HZ.out, Int.natCast_add]
end Go.Proofs.YtlnkeebfaninfaaGreatDoor
