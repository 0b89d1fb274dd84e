/- Contracts of package lex's readGlob, readVariable, endString. -/
import Derived.Test.YtlnkeebfaninfaaGreatDoorLexWord
namespace Go.Proofs.YtlnkeebfaninfaaGreatDoor
open Go.RowKit

theorem nameE_cases (l : List UInt8) : nameE l = 4 ∨ nameE l = 2 ∨ (nameE l = 0 ∧ nameZ l ≤ 40 ∧ nameS l = l.take (nameZ l)) := by
  by_cases h : 40 < runN partB l
  · exact .inl (nameE_long h)
  · cases hg : goodL (l.take (runN partB l))
    · exact .inr (.inl (nameE_none h hg))
    · have := nameE_good h hg
      exact .inr (.inr ⟨this, by unfold nameZ; omega, by unfold nameS; rw [if_pos this]⟩)
theorem drop_get (l : List UInt8) (i j : Nat) (h : i + j < l.length) : (l.drop i)[j]? = some l[i + j] := by
  rw [List.getElem?_drop, List.getElem?_eq_getElem h]
theorem star_no {l : List UInt8} (h : l.length = 0) : starL l = false := by
  have := List.eq_nil_of_length_eq_zero h
  subst this; rfl
theorem star_at {l : List UInt8} (k : Nat) (h : k < l.length) : starL (l.drop k) = decide (l[k].toNat = 42) := by
  rw [Q_cons l k h]; rfl
theorem glob_bad {u : List UInt8} {e : Int} (h : nameE u = e) (h2 : e ≠ 0) : globR u = badR e := by unfold globR; rw [h, if_neg h2]
theorem plain_bad {u : List UInt8} {e : Int} (h : nameE u = e) (h2 : e ≠ 0) : plainR u = badR e := by unfold plainR; rw [h, if_neg h2]
theorem glob_no {u : List UInt8} (h : nameE u = 0) (h2 : starL (u.drop (nameZ u)) = false) : globR u = badR 2 := by unfold globR; rw [h, if_pos rfl, h2, if_neg (by decide)]
theorem glob_ok {u : List UInt8} (h : nameE u = 0) (h2 : starL (u.drop (nameZ u)) = true) : globR u = okR 7 0 (u.take (nameZ u)) (2 + nameZ u + 1) := by unfold globR; rw [h, if_pos rfl, h2, if_pos rfl]
theorem plain_ok {u : List UInt8} (h : nameE u = 0) : plainR u = okR 6 0 (u.take (nameZ u)) (1 + nameZ u) := by unfold plainR; rw [h, if_pos rfl]
theorem take_size (u : List UInt8) : (baL (u.take (nameZ u))).size = nameZ u := by
  rw [baL_size, List.length_take]
  have := run_le partB u
  unfold nameZ; omega

set_option maxHeartbeats 2000000 in
set_option maxRecDepth 4000 in
theorem read_glob (b o n cap : Nat) (l : List UInt8) (w : World) (hl : l.length = n) (h : Bs w b o l) (hn : n ≤ 100000) (hc : n ≤ cap) (h2 : 2 ≤ n) :
    Calls Tryz.prog 44 #[.slice (some ⟨b, o, none⟩) n cap] w fun e w' => e = .returned (rdV (globR (l.drop 2))) ∧ Below w.heap.size w w' := by
  have hsl : ∀ w, (Instr.slice 22 (.slice (some ⟨b, o, none⟩) n cap) (some (.int .i64 2)) none none).run Tryz.prog w = .ok (.slice (fromA (some ⟨b, o, none⟩) cap 2) (n - 2) (cap - 2)) w := fun w => slice_from _ n cap 2 _ w rfl h2
  obtain ⟨u, HU⟩ : ∃ u, Hid (l.drop 2 = u) := ⟨_, rfl⟩
  have hul : u.length = n - 2 := by rw [← HU.out, List.length_drop, hl]
  have hr : Hid (∀ w' : World, Below w.heap.size w w' → Calls Tryz.prog 45 #[.slice (fromA (some ⟨b, o, none⟩) cap 2) (n - 2) (cap - 2)] w' fun e w2 => e = .returned (.tuple #[.string (baL (nameS u)), .int .i64 (nameE u)]) ∧ Below w'.heap.size w' w2) := by
    intro w' hb
    have hi := from_isB (h.next hb) 2 (cap := cap) (by omega)
    rw [HU.out] at hi
    exact read_name _ _ _ u w' hul hi (by omega) (by omega)
  rw [HU.out]
  have HI : Hid (Bs w b o l) := h
  have HL : Hid (l.length = n) := hl
  clear h hl
  rcases nameE_cases u with hE | hE | ⟨hE, hz, hS⟩
  · have HM : Hid (globR u = badR 4) := glob_bad hE (by decide)
    have hr2 := hr.out
    rw [hE] at hr2
    clear hE hr
    go_enter Tryz.func44, Tryz.ntmps44
    go_wp2_with fail
    refine (hr2 _ (alloc_below _ _)).mono ?_
    rintro e w1 ⟨rfl, hb1⟩
    have HB : Hid (Below w.heap.size w w1) := next_trans (alloc_below _ _) hb1
    obtain ⟨hcc, hff⟩ := bcells hb1
    clear hb1 hr2
    go_wp2
    rw [HM.out]
    exact bodyPost_ret (v := rdV (badR 4)) (by simp [results, Tryz.results44, go_sem, hcc, rdV, badR, baL]) rfl ⟨rfl, below4 HB.out _ (Nat.le_refl _) _ _ _ _⟩
  · have HM : Hid (globR u = badR 2) := glob_bad hE (by decide)
    have hr2 := hr.out
    rw [hE] at hr2
    clear hE hr
    go_enter Tryz.func44, Tryz.ntmps44
    go_wp2_with fail
    refine (hr2 _ (alloc_below _ _)).mono ?_
    rintro e w1 ⟨rfl, hb1⟩
    have HB : Hid (Below w.heap.size w w1) := next_trans (alloc_below _ _) hb1
    obtain ⟨hcc, hff⟩ := bcells hb1
    clear hb1 hr2
    go_wp2
    rw [HM.out]
    exact bodyPost_ret (v := rdV (badR 2)) (by simp [results, Tryz.results44, go_sem, hcc, rdV, badR, baL]) rfl ⟨rfl, below4 HB.out _ (Nat.le_refl _) _ _ _ _⟩
  · have hr2 := hr.out
    rw [hE, hS] at hr2
    have hsz := take_size u
    obtain ⟨z, HZ⟩ : ∃ z, Hid (nameZ u = z) := ⟨_, rfl⟩
    rw [HZ.out] at hsz hz hr2
    have hzu : z ≤ n - 2 := by have := run_le partB u; rw [← HZ.out]; unfold nameZ; omega
    obtain ⟨X, HX⟩ : ∃ X, Hid (baL (u.take z) = X) := ⟨_, rfl⟩
    rw [HX.out] at hsz hr2
    clear hr hS
    by_cases he : 2 + z = n
    · have hei : ((2 + (z : Int)) == (n : Int)) = true := by simp; omega
      have HM : Hid (globR u = badR 2) := glob_no hE (star_no (by rw [List.length_drop, HZ.out]; omega))
      clear hE
      go_enter Tryz.func44, Tryz.ntmps44
      go_wp2_with fail
      refine (hr2 _ (alloc_below _ _)).mono ?_
      rintro e w1 ⟨rfl, hb1⟩
      have HB : Hid (Below w.heap.size w w1) := next_trans (alloc_below _ _) hb1
      obtain ⟨hcc, hff⟩ := bcells hb1
      clear hb1 hr2
      go_wp2
      rw [HM.out]
      exact bodyPost_ret (v := rdV (badR 2)) (by simp [results, Tryz.results44, go_sem, hcc, rdV, badR, baL]) rfl ⟨rfl, below4 HB.out _ (Nat.le_refl _) _ _ _ _⟩
    · have hei : ((2 + (z : Int)) == (n : Int)) = false := by simp; omega
      have hlt : (2 + (z : Int)) < (n : Int) := by omega
      have hkl : 2 + z < l.length := by rw [HL.out]; omega
      have hst : starL (u.drop (nameZ u)) = decide (l[2 + z].toNat = 42) := by
        rw [HZ.out, ← HU.out, List.drop_drop]
        exact star_at (2 + z) hkl
      obtain ⟨c, HC⟩ : ∃ c, Hid (l[2 + z] = c) := ⟨l[2 + z], by rw [Hid]⟩
      rw [HC.out] at hst
      by_cases h42 : c.toNat = 42
      · have d1 : ((c.toNat : Int) == 42) = true := by simp; omega
        have HM : Hid (globR u = okR 7 0 (u.take z) (2 + z + 1)) := by
          have := glob_ok hE (by rw [hst]; simpa using h42)
          rw [HZ.out] at this; exact this
        clear hE hst h42
        go_enter Tryz.func44, Tryz.ntmps44
        go_wp2_with fail
        refine (hr2 _ (alloc_below _ _)).mono ?_
        rintro e w1 ⟨rfl, hb1⟩
        have HB : Hid (Below w.heap.size w w1) := next_trans (alloc_below _ _) hb1
        obtain ⟨hcc, hff⟩ := bcells hb1
        have c0 := at_byte HI.out HB.out (2 + z) hkl
        rw [HC.out] at c0
        clear hb1 hr2
        go_wp2
        rw [HM.out]
        exact bodyPost_ret (v := rdV (okR 7 0 (u.take z) (2 + z + 1))) (by simp [results, Tryz.results44, go_sem, hcc, rdV, okR, HX.out]) rfl ⟨rfl, below4 HB.out _ (Nat.le_refl _) _ _ _ _⟩
      · have d1 : ((c.toNat : Int) == 42) = false := by simp; omega
        have HM : Hid (globR u = badR 2) := glob_no hE (by rw [hst]; simpa using h42)
        clear hE hst h42
        go_enter Tryz.func44, Tryz.ntmps44
        go_wp2_with fail
        refine (hr2 _ (alloc_below _ _)).mono ?_
        rintro e w1 ⟨rfl, hb1⟩
        have HB : Hid (Below w.heap.size w w1) := next_trans (alloc_below _ _) hb1
        obtain ⟨hcc, hff⟩ := bcells hb1
        have c0 := at_byte HI.out HB.out (2 + z) hkl
        rw [HC.out] at c0
        clear hb1 hr2
        go_wp2
        rw [HM.out]
        exact bodyPost_ret (v := rdV (badR 2)) (by simp [results, Tryz.results44, go_sem, hcc, rdV, badR, baL]) rfl ⟨rfl, below4 HB.out _ (Nat.le_refl _) _ _ _ _⟩
end Go.Proofs.YtlnkeebfaninfaaGreatDoor
