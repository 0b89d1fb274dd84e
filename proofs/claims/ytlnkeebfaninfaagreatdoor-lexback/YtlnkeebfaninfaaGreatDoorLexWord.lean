/- Contracts of package lex's readName, readWord, readGlob, readVariable. -/
import Derived.Test.YtlnkeebfaninfaaGreatDoorLexRun
import Derived.Test.YtlnkeebfaninfaaGreatDoorShelf
namespace Go.Proofs.YtlnkeebfaninfaaGreatDoor
open Go.RowKit

/-- What reading a token tells, as a value. -/
def rdV (m : Rd) : Value := .tuple #[.agg #[.int .i64 (m.k), .int .i64 (0), .int .i64 (m.i), .string (baL m.s)], .int .i64 (m.z : Int), .int .i64 m.e]
def nameS (l : List UInt8) : List UInt8 := if nameE l = 0 then l.take (nameZ l) else []
theorem conv_isB (ao : Option Addr) (n cap : Nat) (l : List UInt8) (w : World) (hl : l.length = n) (h : IsB w ao l) :
    (convert 22 9 (.slice ao n cap)).run Tryz.prog w = .ok (.string (baL l)) w := by
  by_cases h0 : 0 < l.length
  · obtain ⟨b, o, rfl, hc⟩ := h h0
    exact conv_at b o n cap l w hl hc
  · have e : l = [] := List.eq_nil_of_length_eq_zero (by omega)
    subst e
    have e2 : n = 0 := hl.symm
    subst e2
    exact run_convert_bytes_zero (P := Tryz.prog) w 22 5 Tryz.underlying22 Tryz.underlying5 ao cap 9 Tryz.underlying9
theorem IsB.take {w : World} {ao : Option Addr} {l : List UInt8} (h : IsB w ao l) (k : Nat) : IsB w ao (l.take k) := fun hl => by
  rw [List.length_take] at hl
  obtain ⟨b, o, h1, h2⟩ := h (by omega)
  exact ⟨b, o, h1, h2.take k⟩
theorem ret_si {s t : ByteArray} {a b : Int} (h : s = t) (h2 : a = b) : Ending.returned (.tuple #[.string s, .int .i64 a]) = .returned (.tuple #[.string t, .int .i64 b]) := by rw [h, h2]
theorem nameE_long {l : List UInt8} (h : 40 < runN partB l) : nameE l = 4 := by unfold nameE; rw [if_pos (show 40 < nameZ l from h)]
theorem nameE_good {l : List UInt8} (h : ¬ 40 < runN partB l) (h2 : goodL (l.take (runN partB l)) = true) : nameE l = 0 := by
  unfold nameE; rw [if_neg (show ¬ 40 < nameZ l from h), if_pos (show goodL (l.take (nameZ l)) = true from h2)]
theorem nameE_none {l : List UInt8} (h : ¬ 40 < runN partB l) (h2 : goodL (l.take (runN partB l)) = false) : nameE l = 2 := by
  unfold nameE; rw [if_neg (show ¬ 40 < nameZ l from h), if_neg (by rw [show goodL (l.take (nameZ l)) = false from h2]; decide)]
theorem nameS_no {l : List UInt8} {e : Int} (h : nameE l = e) (h2 : e ≠ 0) : nameS l = [] := by unfold nameS; rw [if_neg (by rw [h]; exact h2)]

set_option maxHeartbeats 1000000 in
set_option maxRecDepth 4000 in
theorem read_name (ao : Option Addr) (n cap : Nat) (l : List UInt8) (w : World) (hl : l.length = n) (h : IsB w ao l) (hn : n ≤ 100000) (hc : n ≤ cap) :
    Calls Tryz.prog 45 #[.slice ao n cap] w fun e w' => e = .returned (.tuple #[.string (baL (nameS l)), .int .i64 (nameE l)]) ∧ Below w.heap.size w w' := by
  have hz := run_le partB l
  obtain ⟨z, HZ⟩ : ∃ z, Hid (runN partB l = z) := ⟨_, rfl⟩
  have hr : Hid (Calls Tryz.prog 46 #[.slice ao n cap, .func (.func 61) #[] #[]] w fun e w' => e = .returned (.int .i64 (z : Int)) ∧ Below w.heap.size w w') := by
    rw [Hid, ← HZ.out]; exact run_name ao n cap l w hl h hn
  rw [HZ.out, hl] at hz
  have hsl : ∀ w, (Instr.slice 22 (.slice ao n cap) none (some (.int .i64 (z : Int))) none).run Tryz.prog w = .ok (.slice ao z cap) w := fun w => slice_to ao n cap z _ w rfl hz hc
  have HI : Hid (IsB w ao l) := h
  clear h
  by_cases h40 : 40 < z
  · have hi : (40 : Int) < (z : Int) := by omega
    have HE : Hid (nameE l = 4) := nameE_long (by rw [HZ.out]; exact h40)
    go_enter Tryz.func45, Tryz.ntmps45
    go_wp2_with fail
    refine hr.out.mono ?_
    rintro e w1 ⟨rfl, hb1⟩
    have HB : Hid (Below w.heap.size w w1) := hb1
    clear hb1
    go_wp2
    go_ret2
    exact ⟨ret_si (by rw [nameS_no HE.out (by decide)]; rfl) HE.out.symm, HB.out⟩
  · have hi : ¬ (40 : Int) < (z : Int) := by omega
    have hgl : goodB (baL (l.take z)) = goodL (l.take z) := rfl
    cases hg : goodL (l.take z)
    · have HE : Hid (nameE l = 2) := nameE_none (by rw [HZ.out]; exact h40) (by rw [HZ.out]; exact hg)
      rw [hg] at hgl
      have hgd : Hid (∀ w : World, Calls Tryz.prog 62 #[.string (baL (l.take z))] w fun e w' => e = .returned (.bool false) ∧ w' = w) := by
        intro w; rw [← hgl]; exact good_any _ w (by rw [baL_size, List.length_take]; unfold maxLen; omega)
      clear hg hgl
      go_enter Tryz.func45, Tryz.ntmps45
      go_wp2_with fail
      refine hr.out.mono ?_
      rintro e w1 ⟨rfl, hb1⟩
      have HB : Hid (Below w.heap.size w w1) := hb1
      have hcv := conv_isB ao z cap (l.take z) w1 (by rw [List.length_take]; omega) ((HI.out.next hb1).take z)
      clear hb1
      go_wp2_with fail
      refine (hgd.out _).mono ?_
      rintro e w2 ⟨rfl, rfl⟩
      go_wp2
      go_ret2
      exact ⟨ret_si (by rw [nameS_no HE.out (by decide)]; rfl) HE.out.symm, HB.out⟩
    · have HE : Hid (nameE l = 0) := nameE_good (by rw [HZ.out]; exact h40) (by rw [HZ.out]; exact hg)
      have HS : Hid (nameS l = l.take z) := by unfold nameS; rw [Hid, if_pos HE.out, show nameZ l = z from HZ.out]
      rw [hg] at hgl
      have hgd : Hid (∀ w : World, Calls Tryz.prog 62 #[.string (baL (l.take z))] w fun e w' => e = .returned (.bool true) ∧ w' = w) := by
        intro w; rw [← hgl]; exact good_any _ w (by rw [baL_size, List.length_take]; unfold maxLen; omega)
      clear hg hgl
      go_enter Tryz.func45, Tryz.ntmps45
      go_wp2_with fail
      refine hr.out.mono ?_
      rintro e w1 ⟨rfl, hb1⟩
      have HB : Hid (Below w.heap.size w w1) := hb1
      have hcv := conv_isB ao z cap (l.take z) w1 (by rw [List.length_take]; omega) ((HI.out.next hb1).take z)
      clear hb1
      go_wp2_with fail
      refine (hgd.out _).mono ?_
      rintro e w2 ⟨rfl, rfl⟩
      go_wp2
      go_ret2
      exact ⟨ret_si (by rw [HS.out]) HE.out.symm, HB.out⟩


theorem below4 {B : Nat} {a w : World} (h : Below B a w) (C : Nat) (hC : B ≤ C) (v0 v1 v2 v3 : Value) :
    Below B a ((((w.setCell ⟨C, 0, none⟩ v0).setCell ⟨C, 1, none⟩ v1).setCell ⟨C, 2, none⟩ v2).setCell ⟨C, 3, none⟩ v3) :=
  (((h.setCell hC _).setCell hC _).setCell hC _).setCell hC _
theorem parse_bel (s : ByteArray) (V E : Int) (w : World) (hs : s.size ≤ 100000) (hV : parV s.data.toList = V) (hE : parE s.data.toList = E) :
    Calls Tryz.prog 48 #[.string s] w fun e w' => e = .returned (.tuple #[.int .i64 V, .int .i64 E]) ∧ Below w.heap.size w w' := by
  refine (parse_any s w hs).mono ?_
  rintro e w' ⟨rfl, hq⟩
  rw [hV, hE]
  exact ⟨rfl, (show SameW w w' from hq).below _⟩
theorem parE_cases (l : List UInt8) : parE l = 0 ∨ parE l = 11 ∨ parE l = 2 := by
  unfold parE
  split
  · unfold resE
    split
    · exact .inl rfl
    · exact .inr (.inl rfl)
  · exact .inr (.inr rfl)
theorem alloc_below (w : World) (o : Obj) : Below w.heap.size w (w.alloc o) := (Below.refl _ _).alloc (Nat.le_refl _) _
theorem word_some {l : List UInt8} {z : Nat} (hz : runN signB l = z) (h0 : z ≠ 0) : wordR l = wordOf (l.take z) z := by
  unfold wordR; rw [hz, if_neg h0]

set_option maxHeartbeats 2000000 in
set_option maxRecDepth 4000 in
theorem read_word (b o n cap : Nat) (l : List UInt8) (w : World) (hl : l.length = n) (h : Bs w b o l) (hn : n ≤ 100000) (hc : n ≤ cap) :
    Calls Tryz.prog 29 #[.slice (some ⟨b, o, none⟩) n cap] w fun e w' => e = .returned (rdV (wordR l)) ∧ Below w.heap.size w w' := by
  have hz := run_le signB l
  obtain ⟨z, HZ⟩ : ∃ z, Hid (runN signB l = z) := ⟨_, rfl⟩
  have hr : Hid (∀ w' : World, Below w.heap.size w w' → Calls Tryz.prog 46 #[.slice (some ⟨b, o, none⟩) n cap, .func (.func 47) #[] #[]] w' fun e w2 => e = .returned (.int .i64 (z : Int)) ∧ Below w'.heap.size w' w2) := by
    intro w' hb; rw [← HZ.out]; exact run_word _ n cap l w' hl (h.next hb).isB hn
  rw [HZ.out, hl] at hz
  have hsl : ∀ w, (Instr.slice 22 (.slice (some ⟨b, o, none⟩) n cap) none (some (.int .i64 (z : Int))) none).run Tryz.prog w = .ok (.slice (some ⟨b, o, none⟩) z cap) w := fun w => slice_to _ n cap z _ w rfl hz hc
  have HI : Hid (Bs w b o l) := h
  clear h
  by_cases h0 : z = 0
  · subst h0
    have HE : Hid (wordR l = badR 2) := by unfold wordR; rw [Hid, if_pos HZ.out]
    go_enter Tryz.func29, Tryz.ntmps29
    go_wp2_with fail
    refine (hr.out _ (alloc_below _ _)).mono ?_
    rintro e w1 ⟨rfl, hb1⟩
    obtain ⟨hcc, hff⟩ := bcells hb1
    have HB : Hid (Below w.heap.size w w1) := next_trans (alloc_below _ _) hb1
    clear hb1
    go_wp2
    rw [HE.out]
    exact bodyPost_ret (v := rdV (badR 2)) (by simp [results, Tryz.results29, go_sem, hcc, rdV, badR, baL]) rfl ⟨rfl, below4 HB.out _ (Nat.le_refl _) _ _ _ _⟩
  · have h0i : ((z : Int) == 0) = false := by simp; omega
    have HR : Hid (wordR l = wordOf (l.take z) z) := word_some HZ.out h0
    have hlen : Hid ((l.take z).length = z) := by rw [Hid, List.length_take]; omega
    have hs : Hid ((baL (l.take z)).size ≤ 100000) := by rw [Hid, baL_size, hlen.out]; omega
    obtain ⟨V, HV⟩ : ∃ V, Hid (parV (l.take z) = V) := ⟨_, rfl⟩
    rcases parE_cases (l.take z) with hE | hE | hE
    · have HP : Hid (∀ w : World, Calls Tryz.prog 48 #[.string (baL (l.take z))] w fun e w' => e = .returned (.tuple #[.int .i64 V, .int .i64 0]) ∧ Below w.heap.size w w') := fun w => parse_bel _ V 0 w hs.out HV.out hE
      have HM : Hid (wordR l = okR 1 V [] z) := by
        rw [Hid, HR.out]; unfold wordOf; rw [if_pos hE, HV.out]
      clear hE
      go_enter Tryz.func29, Tryz.ntmps29
      go_wp2_with fail
      refine (hr.out _ (alloc_below _ _)).mono ?_
      rintro e w1 ⟨rfl, hb1⟩
      have HB : Hid (Below w.heap.size w w1) := next_trans (alloc_below _ _) hb1
      have hcv := conv_at b o z cap (l.take z) w1 hlen.out ((HI.out.next HB.out).take z)
      go_wp2_with fail
      refine (HP.out _).mono ?_
      rintro e w2 ⟨rfl, hb2⟩
      have HB2 : Hid (Below w.heap.size w w2) := next_trans HB.out hb2
      obtain ⟨hcc, hff⟩ := bcells (next_trans hb1 hb2)
      clear hb1 hb2 hcv
      go_wp2
      rw [HM.out]
      exact bodyPost_ret (v := rdV (okR 1 V [] z)) (by simp [results, Tryz.results29, go_sem, hcc, rdV, okR, baL]) rfl ⟨rfl, below4 HB2.out _ (Nat.le_refl _) _ _ _ _⟩
    · have HP : Hid (∀ w : World, Calls Tryz.prog 48 #[.string (baL (l.take z))] w fun e w' => e = .returned (.tuple #[.int .i64 V, .int .i64 11]) ∧ Below w.heap.size w w') := fun w => parse_bel _ V 11 w hs.out HV.out hE
      have HM : Hid (wordR l = badR 11) := by
        rw [Hid, HR.out]; unfold wordOf; rw [if_neg (by rw [hE]; decide), if_pos hE]
      clear hE
      go_enter Tryz.func29, Tryz.ntmps29
      go_wp2_with fail
      refine (hr.out _ (alloc_below _ _)).mono ?_
      rintro e w1 ⟨rfl, hb1⟩
      have HB : Hid (Below w.heap.size w w1) := next_trans (alloc_below _ _) hb1
      have hcv := conv_at b o z cap (l.take z) w1 hlen.out ((HI.out.next HB.out).take z)
      go_wp2_with fail
      refine (HP.out _).mono ?_
      rintro e w2 ⟨rfl, hb2⟩
      have HB2 : Hid (Below w.heap.size w w2) := next_trans HB.out hb2
      obtain ⟨hcc, hff⟩ := bcells (next_trans hb1 hb2)
      clear hb1 hb2 hcv
      go_wp2
      rw [HM.out]
      exact bodyPost_ret (v := rdV (badR 11)) (by simp [results, Tryz.results29, go_sem, hcc, rdV, badR, baL]) rfl ⟨rfl, below4 HB2.out _ (Nat.le_refl _) _ _ _ _⟩
    · by_cases h40 : 40 < z
      · have hi : (40 : Int) < (z : Int) := by omega
        have HP : Hid (∀ w : World, Calls Tryz.prog 48 #[.string (baL (l.take z))] w fun e w' => e = .returned (.tuple #[.int .i64 V, .int .i64 2]) ∧ Below w.heap.size w w') := fun w => parse_bel _ V 2 w hs.out HV.out hE
        have HM : Hid (wordR l = badR 4) := by
          rw [Hid, HR.out]; unfold wordOf; rw [if_neg (by rw [hE]; decide), if_neg (by rw [hE]; decide), if_pos h40]
        clear hE
        go_enter Tryz.func29, Tryz.ntmps29
        go_wp2_with fail
        refine (hr.out _ (alloc_below _ _)).mono ?_
        rintro e w1 ⟨rfl, hb1⟩
        have HB : Hid (Below w.heap.size w w1) := next_trans (alloc_below _ _) hb1
        have hcv := conv_at b o z cap (l.take z) w1 hlen.out ((HI.out.next HB.out).take z)
        go_wp2_with fail
        refine (HP.out _).mono ?_
        rintro e w2 ⟨rfl, hb2⟩
        have HB2 : Hid (Below w.heap.size w w2) := next_trans HB.out hb2
        obtain ⟨hcc, hff⟩ := bcells (next_trans hb1 hb2)
        clear hb1 hb2 hcv
        go_wp2
        rw [HM.out]
        exact bodyPost_ret (v := rdV (badR 4)) (by simp [results, Tryz.results29, go_sem, hcc, rdV, badR, baL]) rfl ⟨rfl, below4 HB2.out _ (Nat.le_refl _) _ _ _ _⟩
      · have hi : ¬ (40 : Int) < (z : Int) := by omega
        have HP : Hid (∀ w : World, Calls Tryz.prog 48 #[.string (baL (l.take z))] w fun e w' => e = .returned (.tuple #[.int .i64 V, .int .i64 2]) ∧ Below w.heap.size w w') := fun w => parse_bel _ V 2 w hs.out HV.out hE
        have HM : Hid (wordR l = okR 2 0 (l.take z) z) := by
          rw [Hid, HR.out]; unfold wordOf; rw [if_neg (by rw [hE]; decide), if_neg (by rw [hE]; decide), if_neg h40]
        clear hE
        go_enter Tryz.func29, Tryz.ntmps29
        go_wp2_with fail
        refine (hr.out _ (alloc_below _ _)).mono ?_
        rintro e w1 ⟨rfl, hb1⟩
        have HB : Hid (Below w.heap.size w w1) := next_trans (alloc_below _ _) hb1
        have hcv := conv_at b o z cap (l.take z) w1 hlen.out ((HI.out.next HB.out).take z)
        go_wp2_with fail
        refine (HP.out _).mono ?_
        rintro e w2 ⟨rfl, hb2⟩
        have HB2 : Hid (Below w.heap.size w w2) := next_trans HB.out hb2
        obtain ⟨hcc, hff⟩ := bcells (next_trans hb1 hb2)
        clear hb1 hb2 hcv
        go_wp2
        rw [HM.out]
        exact bodyPost_ret (v := rdV (okR 2 0 (l.take z) z)) (by simp [results, Tryz.results29, go_sem, hcc, rdV, okR]) rfl ⟨rfl, below4 HB2.out _ (Nat.le_refl _) _ _ _ _⟩
end Go.Proofs.YtlnkeebfaninfaaGreatDoor
