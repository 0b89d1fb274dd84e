/- Contracts of package lex's read, lastOfLine, skip. -/
import Derived.Test.YtlnkeebfaninfaaGreatDoorLexStr
namespace Go.Proofs.YtlnkeebfaninfaaGreatDoor
open Go.RowKit

theorem index_line : ∀ l : List UInt8, (if 0 ≤ Lib.index l [10] then (Lib.index l [10]).toNat else l.length) = runN lineB l
  | [] => rfl
  | c :: r => by
    have ih := index_line r
    have hge := Lib.index_ge r [10]
    rw [run_cons]
    by_cases h : c.toNat = 10
    · have hc : c = 10 := by apply UInt8.toNat_inj.1; rw [h]; rfl
      subst hc
      have e : Lib.index (10 :: r) [10] = 0 := by unfold Lib.index; rfl
      rw [e]; rfl
    · have hb : lineB c = true := by unfold lineB; simp [h]
      have hp : ([10] : List UInt8).isPrefixOf (c :: r) = false := by
        show ((10 : UInt8) == c && true) = false
        simp only [Bool.and_true, beq_eq_false_iff_ne, ne_eq]
        intro e; subst e; exact h rfl
      have e : Lib.index (c :: r) [10] = if Lib.index r [10] == -1 then -1 else Lib.index r [10] + 1 := by
        conv => lhs; unfold Lib.index
        rw [hp]; rfl
      rw [e, if_pos hb]
      by_cases h1 : Lib.index r [10] = -1
      · rw [h1] at ih ⊢
        rw [← ih]; simp
      · have h2 : (Lib.index r [10] == -1) = false := by simpa using h1
        have e3 : (if (Lib.index r [10] == -1) = true then -1 else Lib.index r [10] + 1) = Lib.index r [10] + 1 := by rw [h2]; rfl
        rw [e3, ← ih, if_pos (by omega), if_pos (by omega)]
        omega
theorem cut_line (p : Option Addr) (n c : Nat) (l : List UInt8) (hl : l.length = n) : ∃ v1 v2, Lib.cutV p n c 1 (Lib.index l [10]) = .tuple #[.slice p (runN lineB l) c, v1, v2] := by
  have h := index_line l
  unfold Lib.cutV
  by_cases h0 : 0 ≤ Lib.index l [10]
  · rw [if_pos h0] at h ⊢
    rw [h]; exact ⟨_, _, rfl⟩
  · rw [if_neg h0] at h ⊢
    rw [← h, hl]; exact ⟨_, _, rfl⟩
/-- The library's greatest length lies there, whatever it is. -/
def MaxW (w : World) : Prop := ∃ m, w.cell? ⟨1, 0, none⟩ = some (.int .i64 m)
theorem MaxW.next {w w' : World} (h : MaxW w) (hb : Below w.heap.size w w') : MaxW w' := by
  obtain ⟨m, hm⟩ := h
  exact ⟨m, keep_cell hb hm⟩
theorem cut_any (b o n cap : Nat) (l : List UInt8) (w : World) (hl : l.length = n) (hc : n ≤ cap) (h : Bs w b o l) (hn : n ≤ 100000) (hm : MaxW w) (B : Nat) (h0 : w.cell? ⟨B, 0, none⟩ = some (.int .u8 10)) :
    Calls Tryz.prog 41 #[.slice (some ⟨b, o, none⟩) n cap, .slice (some ⟨B, 0, none⟩) 1 1] w fun e w' => (∃ v1 v2, e = .returned (.tuple #[.slice (some ⟨b, o, none⟩) (runN lineB l) cap, v1, v2])) ∧ Below w.heap.size w w' := by
  obtain ⟨m, hm⟩ := hm
  have hb : Lib.BytesIn w (some ⟨B, 0, none⟩) 1 [10] := fun _ => ⟨B, 0, rfl, fun i hi => by
    obtain rfl : i = 0 := by omega
    exact h0⟩
  have hx := h.isB.bytesIn
  rw [hl] at hx
  refine (Tryz.bytes_Cut_all _ _ n cap 1 1 (numsOf l) [10] m w (by rw [nums_len, hl]) rfl (nums_bd l) (by simp) hx hb (by simp) hc (by omega) (by omega) hm).mono ?_
  rintro e w' ⟨rfl, q, rfl⟩
  rw [nums_bytes]
  obtain ⟨v1, v2, e⟩ := cut_line (some ⟨b, o, none⟩) n cap l hl
  have e2 : Lib.bytesOf [10] = [10] := rfl
  rw [e2, e]
  exact ⟨⟨v1, v2, rfl⟩, (show SameW w (w.drewN q) from ⟨q, rfl⟩).below _⟩

set_option maxHeartbeats 2000000 in
set_option maxRecDepth 4000 in
theorem last_line (b o n cap k : Nat) (l : List UInt8) (w : World) (hl : l.length = n) (h : Bs w b o l) (hn : n ≤ 100000) (hc : n ≤ cap) (hk : k < n) (hm : MaxW w) :
    Calls Tryz.prog 26 #[.slice (some ⟨b, o, none⟩) n cap, .int .i64 (k : Int)] w fun e w' => e = .returned (.int .i64 ((k : Int) + (runN lineB (l.drop k) : Int) - 1)) ∧ Below w.heap.size w w' := by
  have hsl : ∀ w, (Instr.slice 22 (.slice (some ⟨b, o, none⟩) n cap) (some (.int .i64 (k : Int))) none none).run Tryz.prog w = .ok (.slice (some ⟨b, o + k, none⟩) (n - k) (cap - k)) w := fun w => by
    rw [slice_from _ n cap k _ w rfl (by omega), from_at b o cap k (by omega)]
  have hcv := Lib.run_convert_bytes_const (P := Tryz.prog) w 22 5 #[.int .u8 10] 1 1 Tryz.underlying22 Tryz.underlying5
  simp only [List.size_toArray, List.length_cons, List.length_nil, Nat.zero_add, Nat.reduceAdd] at hcv
  have hz := run_le lineB (l.drop k)
  have hzl : (l.drop k).length = n - k := by rw [List.length_drop, hl]
  have HC : Hid (∀ (w' : World) (B : Nat), Below w.heap.size w w' → w'.cell? ⟨B, 0, none⟩ = some (.int .u8 10) → Calls Tryz.prog 41 #[.slice (some ⟨b, o + k, none⟩) (n - k) (cap - k), .slice (some ⟨B, 0, none⟩) 1 1] w' fun e w2 => (∃ v1 v2, e = .returned (.tuple #[.slice (some ⟨b, o + k, none⟩) (runN lineB (l.drop k)) (cap - k), v1, v2])) ∧ Below w'.heap.size w' w2) :=
    fun w' B hb h0 => cut_any b (o + k) (n - k) (cap - k) (l.drop k) w' hzl (by omega) ((h.next hb).drop k) (by omega) (hm.next hb) B h0
  obtain ⟨z, HZ⟩ : ∃ z, Hid (runN lineB (l.drop k) = z) := ⟨_, rfl⟩
  rw [HZ.out] at HC hz ⊢
  rw [hzl] at hz
  clear h hm
  go_enter Tryz.func26, Tryz.ntmps26
  go_wp2_with fail
  refine (HC.out _ _ ?_ ?_).mono ?_
  · exact alloc_below _ _
  · exact (Go.Joins.cell_alloc_mark_at _ _ _ _ _ _ rfl).trans rfl
  rintro e w1 ⟨⟨v1, v2, rfl⟩, hb1⟩
  have HB : Hid (Below w.heap.size w w1) := next_trans (alloc_below _ _) hb1
  clear hb1
  go_wp2
  go_ret
  exact ⟨rfl, HB.out⟩

theorem line_pos {l : List UInt8} {p : Nat} {c : UInt8} (h : l[p]? = some c) (hc : c.toNat = 59) : 1 ≤ runN lineB (l.drop p) ∧ p + runN lineB (l.drop p) ≤ l.length := by
  have hl := run_le lineB (l.drop p)
  rw [List.length_drop] at hl
  obtain ⟨hp, _⟩ := List.getElem?_eq_some_iff.1 h
  refine ⟨?_, by omega⟩
  rw [drop_at h, run_cons, if_pos (by unfold lineB; rw [hc]; decide)]
  omega
theorem Q_blank' {l : List UInt8} {p : Nat} {c : UInt8} (h : l[p]? = some c) (hb : blankB c = true) (acc : List Tk) : scanQ l p acc = scanQ l (p + 1) acc := by
  obtain ⟨hp, rfl⟩ := List.getElem?_eq_some_iff.1 h
  exact Q_blank l p acc hp hb
theorem Q_line' {l : List UInt8} {p : Nat} {c : UInt8} (h : l[p]? = some c) (hb : c.toNat = 59) (acc : List Tk) : scanQ l p acc = scanQ l (p + runN lineB (l.drop p)) acc := by
  obtain ⟨hp, rfl⟩ := List.getElem?_eq_some_iff.1 h
  exact Q_line l p acc hp hb
/-- No blank and no comment begins there. -/
def stopL (l : List UInt8) (p : Nat) : Prop := ∀ c, l[p]? = some c → blankB c = false ∧ c.toNat ≠ 59
theorem stop_at {l : List UInt8} {p : Nat} {c : UInt8} (h : l[p]? = some c) (h1 : c.toNat ≠ 59) (h2 : c.toNat ≠ 32) (h3 : c.toNat ≠ 9) (h4 : c.toNat ≠ 10) (h5 : c.toNat ≠ 13) : stopL l p := by
  intro d hd
  rw [h] at hd
  obtain rfl := Option.some.inj hd
  exact ⟨by unfold blankB; simp; omega, h1⟩
theorem stop_end {l : List UInt8} {p : Nat} (h : l.length ≤ p) : stopL l p := by
  intro d hd
  rw [List.getElem?_eq_none h] at hd
  exact absurd hd (by simp)

set_option maxHeartbeats 4000000 in
set_option maxRecDepth 4000 in
theorem skip_any (ao : Option Addr) (n cap k : Nat) (l : List UInt8) (w : World) (hl : l.length = n) (h : IsB w ao l) (hn : n ≤ 100000) (hc : n ≤ cap) (hk : k ≤ n) (hm : MaxW w) :
    Calls Tryz.prog 14 #[.slice ao n cap, .int .i64 (k : Int)] w fun e w' => ∃ p : Nat, e = .returned (.int .i64 (p : Int)) ∧ k ≤ p ∧ p ≤ n ∧ (∀ acc, scanQ l k acc = scanQ l p acc) ∧ stopL l p ∧ Below w.heap.size w w' := by
  have HI : Hid (IsB w ao l) := h
  have HL : Hid (l.length = n) := hl
  have HMx : Hid (MaxW w) := hm
  clear h hl hm
  go_enter Tryz.func14, Tryz.ntmps14
  go_wp2
  go_loopw [1] (fun i wr => ∃ p : Nat, k ≤ p ∧ p ≤ n ∧ i = .int .i64 p ∧ Hid (∀ acc, scanQ l k acc = scanQ l p acc) ∧ Hid (Below w.heap.size w wr)) (fun i _ => n - (intOf i).toNat)
  case atStart => exact ⟨k, Nat.le_refl _, hk, rfl, fun _ => rfl, Below.refl _ _⟩
  case round =>
    obtain ⟨p, hkp, hpn, rfl, HS, HW⟩ := hrel
    by_cases hlt : p < n
    · have hli : (p : Int) < (n : Int) := by omega
      have hpl : p < l.length := by rw [HL.out]; exact hlt
      obtain ⟨b, o, rfl, hbs⟩ := HI.out (by omega)
      have HI2 : Hid (Bs w b o l) := hbs
      obtain ⟨c, HC⟩ : ∃ c, Hid (l[p]? = some c) := ⟨_, List.getElem?_eq_getElem hpl⟩
      have c0 := (HI2.out.next HW.out).get HC.out
      clear hbs
      by_cases c59 : c.toNat = 59
      · have d1 : ((c.toNat : Int) == 59) = true := by simp; omega
        have HQ := Q_line' HC.out c59
        obtain ⟨hz1, hz2⟩ := line_pos HC.out c59
        have HLL : Hid (Calls Tryz.prog 26 #[.slice (some ⟨b, o, none⟩) n cap, .int .i64 (p : Int)] wr fun e w' => e = .returned (.int .i64 ((p : Int) + (runN lineB (l.drop p) : Int) - 1)) ∧ Below wr.heap.size wr w') :=
          last_line b o n cap p l wr HL.out (HI2.out.next HW.out) hn hc hlt (HMx.out.next HW.out)
        obtain ⟨z, HZ⟩ : ∃ z, Hid (runN lineB (l.drop p) = z) := ⟨_, rfl⟩
        rw [HZ.out] at HLL HQ hz1 hz2
        rw [HL.out] at hz2
        have HS2 : Hid (∀ acc, scanQ l k acc = scanQ l (p + z) acc) := fun acc => (HS.out acc).trans (HQ acc)
        clear c59 HQ
        go_wp2_with fail
        refine HLL.out.mono ?_
        rintro e w1 ⟨rfl, hb1⟩
        have HB : Hid (Below w.heap.size w w1) := next_trans HW.out hb1
        clear hb1 c0
        go_wp2
        go_round
        case rel => exact ⟨p + z, by omega, by omega, by go_num, HS2, HB⟩
        case measure => simp [intOf]; omega
      · have d1 : ((c.toNat : Int) == 59) = false := by simp; omega
        by_cases hb : blankB c = true
        · have HS2 : Hid (∀ acc, scanQ l k acc = scanQ l (p + 1) acc) := fun acc => (HS.out acc).trans (Q_blank' HC.out hb acc)
          unfold blankB at hb
          rw [decide_eq_true_eq] at hb
          rcases hb with hb | hb | hb | hb
          · have e1 : ((c.toNat : Int) == 32) = true := by simp; omega
            clear c59 hb
            go_wp2
            go_round
            case rel => exact ⟨p + 1, by omega, by omega, by go_num, HS2, HW⟩
            case measure => simp [intOf]; omega
          · have e1 : ((c.toNat : Int) == 32) = false := by simp; omega
            have e2 : ((c.toNat : Int) == 9) = true := by simp; omega
            clear c59 hb
            go_wp2
            go_round
            case rel => exact ⟨p + 1, by omega, by omega, by go_num, HS2, HW⟩
            case measure => simp [intOf]; omega
          · have e1 : ((c.toNat : Int) == 32) = false := by simp; omega
            have e2 : ((c.toNat : Int) == 9) = false := by simp; omega
            have e3 : ((c.toNat : Int) == 10) = true := by simp; omega
            clear c59 hb
            go_wp2
            go_round
            case rel => exact ⟨p + 1, by omega, by omega, by go_num, HS2, HW⟩
            case measure => simp [intOf]; omega
          · have e1 : ((c.toNat : Int) == 32) = false := by simp; omega
            have e2 : ((c.toNat : Int) == 9) = false := by simp; omega
            have e3 : ((c.toNat : Int) == 10) = false := by simp; omega
            have e4 : ((c.toNat : Int) == 13) = true := by simp; omega
            clear c59 hb
            go_wp2
            go_round
            case rel => exact ⟨p + 1, by omega, by omega, by go_num, HS2, HW⟩
            case measure => simp [intOf]; omega
        · have hnb : ¬ (c.toNat = 32 ∨ c.toNat = 9 ∨ c.toNat = 10 ∨ c.toNat = 13) := by
            intro hx
            exact hb (by unfold blankB; exact decide_eq_true hx)
          have HT : Hid (stopL l p) := stop_at HC.out c59 (by omega) (by omega) (by omega) (by omega)
          have e1 : ((c.toNat : Int) == 32) = false := by simp; omega
          have e2 : ((c.toNat : Int) == 9) = false := by simp; omega
          have e3 : ((c.toNat : Int) == 10) = false := by simp; omega
          have e4 : ((c.toNat : Int) == 13) = false := by simp; omega
          clear c59 hb hnb
          go_wp2
          go_ret
          exact ⟨p, rfl, hkp, hpn, HS.out, HT.out, HW.out⟩
    · have hli : ¬ (p : Int) < (n : Int) := by omega
      have HT : Hid (stopL l p) := stop_end (by rw [HL.out]; omega)
      go_wp2
      go_ret
      exact ⟨p, rfl, hkp, hpn, HS.out, HT.out, HW.out⟩
end Go.Proofs.YtlnkeebfaninfaaGreatDoor
