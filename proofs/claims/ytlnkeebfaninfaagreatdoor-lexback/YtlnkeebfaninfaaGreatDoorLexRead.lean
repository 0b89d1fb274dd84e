/- Contracts of package lex's readVariable, endString. -/
import Derived.Test.YtlnkeebfaninfaaGreatDoorLexVar
import Derived.Lib.SmallJoins
namespace Go.Proofs.YtlnkeebfaninfaaGreatDoor
open Go.RowKit

theorem pre_is (c : UInt8) (t : List UInt8) (h : c.toNat = 63) : Lib.hasPrefix (Lib.bytesOf (numsOf (c :: t))) (Lib.bytesOf [63, 42]) = starL t := by
  rw [nums_bytes]
  have hc : c = 63 := by apply UInt8.toNat_inj.1; rw [h]; rfl
  subst hc
  cases t with
  | nil => rfl
  | cons d r =>
    have e : Lib.hasPrefix (63 :: d :: r) (Lib.bytesOf [63, 42]) = (42 == d) := by
      show ((63 : UInt8) == 63 && ((42 : UInt8) == d && true)) = _
      simp
    rw [e]
    show _ = decide (d.toNat = 42)
    by_cases hd : d.toNat = 42
    · have : d = 42 := by apply UInt8.toNat_inj.1; rw [hd]; rfl
      subst this; rfl
    · rw [decide_eq_false hd]
      simp only [beq_eq_false_iff_ne, ne_eq]
      intro e2; subst e2; exact hd rfl
theorem pre_any (b o n cap : Nat) (c : UInt8) (t : List UInt8) (w : World) (hl : (c :: t).length = n) (hc : n ≤ cap) (h : Bs w b o (c :: t)) (h63 : c.toNat = 63) (B : Nat) (h0 : w.cell? ⟨B, 0, none⟩ = some (.int .u8 63)) (h1 : w.cell? ⟨B, 1, none⟩ = some (.int .u8 42)) :
    Calls Tryz.prog 43 #[.slice (some ⟨b, o, none⟩) n cap, .slice (some ⟨B, 0, none⟩) 2 2] w fun e w' => e = .returned (.bool (starL t)) ∧ w' = w := by
  rw [← pre_is c t h63]
  have hb : Lib.BytesIn w (some ⟨B, 0, none⟩) 2 [63, 42] := fun _ => ⟨B, 0, rfl, fun i hi => by
    rcases i with _ | _ | i
    · exact h0
    · exact h1
    · omega⟩
  have hx := h.isB.bytesIn
  rw [hl] at hx
  exact Tryz.bytes_HasPrefix_all _ _ n cap 2 2 (numsOf (c :: t)) [63, 42] w (by rw [nums_len, hl]) rfl hc hx hb
theorem var_glob {t : List UInt8} (h : starL t = true) : varR t = globR (t.drop 1) := by unfold varR; rw [if_pos h]
theorem var_plain {t : List UInt8} (h : starL t = false) : varR t = plainR t := by unfold varR; rw [if_neg (by rw [h]; decide)]

set_option maxHeartbeats 2000000 in
set_option maxRecDepth 4000 in
theorem read_var (b o n cap : Nat) (c : UInt8) (t : List UInt8) (w : World) (hl : (c :: t).length = n) (h : Bs w b o (c :: t)) (hn : n ≤ 100000) (hc : n ≤ cap) (h63 : c.toNat = 63) :
    Calls Tryz.prog 28 #[.slice (some ⟨b, o, none⟩) n cap] w fun e w' => e = .returned (rdV (varR t)) ∧ Below w.heap.size w w' := by
  have hn1 : 1 ≤ n := by rw [← hl]; simp
  have htl : t.length = n - 1 := by rw [← hl]; simp
  have hsl : ∀ w, (Instr.slice 22 (.slice (some ⟨b, o, none⟩) n cap) (some (.int .i64 1)) none none).run Tryz.prog w = .ok (.slice (fromA (some ⟨b, o, none⟩) cap 1) (n - 1) (cap - 1)) w := fun w => slice_from _ n cap 1 _ w rfl hn1
  have HP : Hid (∀ (w' : World) (B : Nat), Below w.heap.size w w' → w'.cell? ⟨B, 0, none⟩ = some (.int .u8 63) → w'.cell? ⟨B, 1, none⟩ = some (.int .u8 42) → Calls Tryz.prog 43 #[.slice (some ⟨b, o, none⟩) n cap, .slice (some ⟨B, 0, none⟩) 2 2] w' fun e w2 => e = .returned (.bool (starL t)) ∧ w2 = w') :=
    fun w' B hb h0 h1 => pre_any b o n cap c t w' hl hc (h.next hb) h63 B h0 h1
  have HG : Hid (∀ w' : World, 2 ≤ n → Below w.heap.size w w' → Calls Tryz.prog 44 #[.slice (some ⟨b, o, none⟩) n cap] w' fun e w2 => e = .returned (rdV (globR (t.drop 1))) ∧ Below w'.heap.size w' w2) :=
    fun w' h2 hb => read_glob b o n cap (c :: t) w' hl (h.next hb) hn hc h2
  have HN : Hid (∀ w' : World, Below w.heap.size w w' → Calls Tryz.prog 45 #[.slice (fromA (some ⟨b, o, none⟩) cap 1) (n - 1) (cap - 1)] w' fun e w2 => e = .returned (.tuple #[.string (baL (nameS t)), .int .i64 (nameE t)]) ∧ Below w'.heap.size w' w2) := by
    intro w' hb
    have hi := from_isB (h.next hb) 1 (cap := cap) (by omega)
    exact read_name _ _ _ t w' htl hi (by omega) (by omega)
  clear h hl
  have hcv := Go.Joins.run_convert_bytes_const_at (P := Tryz.prog) (w.alloc (.cells #[.int .i64 0, .int .i64 0, .int .i64 0, .string ⟨#[]⟩] 40)) 22 5 #[.int .u8 63, .int .u8 42] 2 2 (w.heap.size + 1) (by simp) Tryz.underlying22 Tryz.underlying5
  simp only [List.size_toArray, List.length_cons, List.length_nil, Nat.zero_add, Nat.reduceAdd] at hcv
  cases hs : starL t
  · have HV : Hid (varR t = plainR t) := var_plain hs
    rw [hs] at HP
    rcases nameE_cases t with hE | hE | ⟨hE, hz, hS⟩
    · have HM : Hid (varR t = badR 4) := by rw [Hid, HV.out]; exact plain_bad hE (by decide)
      rw [hE] at HN
      clear hE hs
      go_enter Tryz.func28, Tryz.ntmps28
      go_wp2_with fail
      refine (HP.out _ _ ?_ ?_ ?_).mono ?_
      · exact next_trans (alloc_below _ _) (alloc_below _ _)
      · exact (Go.Joins.cell_alloc_mark_at _ _ _ _ _ _ (by simp)).trans rfl
      · exact (Go.Joins.cell_alloc_mark_at _ _ _ _ _ _ (by simp)).trans rfl
      rintro e w1 ⟨rfl, rfl⟩
      go_wp2_with fail
      refine (HN.out _ ?_).mono ?_
      · exact next_trans (alloc_below _ _) (alloc_below _ _)
      rintro e w2 ⟨rfl, hb2⟩
      have HB : Hid (Below w.heap.size w w2) := next_trans (next_trans (alloc_below _ _) (alloc_below _ _)) hb2
      obtain ⟨hcc, hff⟩ := bcells (next_trans (alloc_below _ _) hb2)
      clear hb2
      go_wp2
      rw [HM.out]
      exact bodyPost_ret (v := rdV (badR 4)) (by simp [results, Tryz.results28, go_sem, hcc, rdV, badR, baL]) rfl ⟨rfl, below4 HB.out _ (Nat.le_refl _) _ _ _ _⟩
    · have HM : Hid (varR t = badR 2) := by rw [Hid, HV.out]; exact plain_bad hE (by decide)
      rw [hE] at HN
      clear hE hs
      go_enter Tryz.func28, Tryz.ntmps28
      go_wp2_with fail
      refine (HP.out _ _ ?_ ?_ ?_).mono ?_
      · exact next_trans (alloc_below _ _) (alloc_below _ _)
      · exact (Go.Joins.cell_alloc_mark_at _ _ _ _ _ _ (by simp)).trans rfl
      · exact (Go.Joins.cell_alloc_mark_at _ _ _ _ _ _ (by simp)).trans rfl
      rintro e w1 ⟨rfl, rfl⟩
      go_wp2_with fail
      refine (HN.out _ ?_).mono ?_
      · exact next_trans (alloc_below _ _) (alloc_below _ _)
      rintro e w2 ⟨rfl, hb2⟩
      have HB : Hid (Below w.heap.size w w2) := next_trans (next_trans (alloc_below _ _) (alloc_below _ _)) hb2
      obtain ⟨hcc, hff⟩ := bcells (next_trans (alloc_below _ _) hb2)
      clear hb2
      go_wp2
      rw [HM.out]
      exact bodyPost_ret (v := rdV (badR 2)) (by simp [results, Tryz.results28, go_sem, hcc, rdV, badR, baL]) rfl ⟨rfl, below4 HB.out _ (Nat.le_refl _) _ _ _ _⟩
    · have hsz := take_size t
      rw [hE, hS] at HN
      have HM : Hid (varR t = okR 6 0 (t.take (nameZ t)) (1 + nameZ t)) := by rw [Hid, HV.out]; exact plain_ok hE
      obtain ⟨z, HZ⟩ : ∃ z, Hid (nameZ t = z) := ⟨_, rfl⟩
      rw [HZ.out] at hsz hz HN HM
      obtain ⟨X, HX⟩ : ∃ X, Hid (baL (t.take z) = X) := ⟨_, rfl⟩
      rw [HX.out] at hsz HN
      clear hE hs hS
      go_enter Tryz.func28, Tryz.ntmps28
      go_wp2_with fail
      refine (HP.out _ _ ?_ ?_ ?_).mono ?_
      · exact next_trans (alloc_below _ _) (alloc_below _ _)
      · exact (Go.Joins.cell_alloc_mark_at _ _ _ _ _ _ (by simp)).trans rfl
      · exact (Go.Joins.cell_alloc_mark_at _ _ _ _ _ _ (by simp)).trans rfl
      rintro e w1 ⟨rfl, rfl⟩
      go_wp2_with fail
      refine (HN.out _ ?_).mono ?_
      · exact next_trans (alloc_below _ _) (alloc_below _ _)
      rintro e w2 ⟨rfl, hb2⟩
      have HB : Hid (Below w.heap.size w w2) := next_trans (next_trans (alloc_below _ _) (alloc_below _ _)) hb2
      obtain ⟨hcc, hff⟩ := bcells (next_trans (alloc_below _ _) hb2)
      clear hb2
      go_wp2
      rw [HM.out]
      exact bodyPost_ret (v := rdV (okR 6 0 (t.take z) (1 + z))) (by simp [results, Tryz.results28, go_sem, hcc, rdV, okR, HX.out]) rfl ⟨rfl, below4 HB.out _ (Nat.le_refl _) _ _ _ _⟩
  · have h2 : 2 ≤ n := by have := star_len hs; omega
    have HV : Hid (varR t = globR (t.drop 1)) := var_glob hs
    obtain ⟨m, Hm⟩ : ∃ m, Hid (globR (t.drop 1) = m) := ⟨_, rfl⟩
    rw [hs] at HP
    rw [Hm.out] at HG HV
    clear hs HN
    go_enter Tryz.func28, Tryz.ntmps28
    go_wp2_with fail
    refine (HP.out _ _ ?_ ?_ ?_).mono ?_
    · exact next_trans (alloc_below _ _) (alloc_below _ _)
    · exact (Go.Joins.cell_alloc_mark_at _ _ _ _ _ _ (by simp)).trans rfl
    · exact (Go.Joins.cell_alloc_mark_at _ _ _ _ _ _ (by simp)).trans rfl
    rintro e w1 ⟨rfl, rfl⟩
    go_wp2_with fail
    refine (HG.out _ h2 ?_).mono ?_
    · exact next_trans (alloc_below _ _) (alloc_below _ _)
    rintro e w2 ⟨rfl, hb2⟩
    have HB : Hid (Below w.heap.size w w2) := next_trans (next_trans (alloc_below _ _) (alloc_below _ _)) hb2
    obtain ⟨hcc, hff⟩ := bcells (next_trans (alloc_below _ _) hb2)
    clear hb2
    unfold rdV
    go_wp2
    rw [HV.out]
    exact bodyPost_ret (v := rdV m) (by simp [results, Tryz.results28, go_sem, hcc, rdV]) rfl ⟨rfl, below4 HB.out _ (Nat.le_refl _) _ _ _ _⟩

set_option maxHeartbeats 2000000 in
set_option maxRecDepth 4000 in
theorem end_str (acc : List UInt8) (k : Nat) (w : World) (ha : acc.length ≤ 100000) :
    Calls Tryz.prog 42 #[.string (baL acc), .int .i64 ((k : Int) + 1)] w fun e w' => e = .returned (rdV (endR acc k)) ∧ Below w.heap.size w w' := by
  obtain ⟨X, HX⟩ : ∃ X, Hid (baL acc = X) := ⟨_, rfl⟩
  have hr := fun w => right_any 3 0 (baL acc) w (by rw [baL_size]; exact ha)
  rw [right_str, baL_size, HX.out] at hr
  rw [HX.out]
  have HR : Hid (∀ w : World, Calls Tryz.prog 58 #[.agg #[.int .i64 (3), .int .i64 (0), .string (X)]] w fun e w' => e = .returned (.bool (decide ((0 : Int) = 0 ∧ acc.length ≤ 1000))) ∧ Below w.heap.size w w') := hr
  clear hr
  by_cases h1 : 1000 < acc.length
  · have HM : Hid (endR acc k = badR 4) := by unfold endR; rw [Hid, if_pos h1]
    rw [show decide ((0 : Int) = 0 ∧ acc.length ≤ 1000) = false by simp; omega] at HR
    go_enter Tryz.func42, Tryz.ntmps42
    go_wp2_with fail
    refine (of_str _ _).mono ?_
    rintro e w1 ⟨rfl, hb1⟩
    go_wp2_with fail
    refine (HR.out _).mono ?_
    rintro e w2 ⟨rfl, hb2⟩
    have HB : Hid (Below w.heap.size w w2) := next_trans (next_trans (alloc_below _ _) hb1) hb2
    obtain ⟨hcc, hff⟩ := bcells (next_trans hb1 hb2)
    clear hb1 hb2
    go_wp2
    rw [HM.out]
    exact bodyPost_ret (v := rdV (badR 4)) (by simp [results, Tryz.results42, go_sem, hcc, rdV, badR, baL]) rfl ⟨rfl, below4 HB.out _ (Nat.le_refl _) _ _ _ _⟩
  · have HM : Hid (endR acc k = okR 3 0 acc (k + 1)) := by unfold endR; rw [Hid, if_neg h1]
    rw [show decide ((0 : Int) = 0 ∧ acc.length ≤ 1000) = true by simp; omega] at HR
    go_enter Tryz.func42, Tryz.ntmps42
    go_wp2_with fail
    refine (of_str _ _).mono ?_
    rintro e w1 ⟨rfl, hb1⟩
    go_wp2_with fail
    refine (HR.out _).mono ?_
    rintro e w2 ⟨rfl, hb2⟩
    have HB : Hid (Below w.heap.size w w2) := next_trans (next_trans (alloc_below _ _) hb1) hb2
    obtain ⟨hcc, hff⟩ := bcells (next_trans hb1 hb2)
    clear hb1 hb2
    go_wp2
    rw [HM.out]
    exact bodyPost_ret (v := rdV (okR 3 0 acc (k + 1))) (by simp [results, Tryz.results42, go_sem, hcc, rdV, okR, HX.out]) rfl ⟨rfl, below4 HB.out _ (Nat.le_refl _) _ _ _ _⟩
end Go.Proofs.YtlnkeebfaninfaaGreatDoor
