import Derived.Lib.SmallJoins
import Derived.Laws.IdiomStrings
import Derived.Laws.OwnMore
import Derived.Lib.BufferKept
import Derived.Lib.AppendStr
import Derived.OwnWalk
import Derived.Shelf.Bytes.SlCut
import Derived.Test.YtnhbjhdkpbhioaaGreatDoorG4
import Derived.Test.YtnhbjhdkpbhioaaGreatDoorG3
namespace Go.Proofs.YtnhbjhdkpbhioaaGreatDoor
open Go.RowKit
theorem pre_is (c : UInt8) (t : List UInt8) (h : c.toNat = 63) : Lib.hasPrefix (Lib.bytesOf (numsOf (c :: t))) (Lib.bytesOf [63, 42]) = starL t := by
  rw [nums_bytes]
  have hc : c = 63 := by apply UInt8.toNat_inj.1; rw [h]; rfl
  subst hc
  cases t with
  | nil => rfl
  | cons d r =>
    have e : Lib.hasPrefix (63 :: d :: r) (Lib.bytesOf [63, 42]) = (42 == d) := by
      show ((63 : UInt8) == 63 && ((42 : UInt8) == d && true)) = _
      simp
    rw [e]
    show _ = decide (d.toNat = 42)
    by_cases hd : d.toNat = 42
    · have : d = 42 := by apply UInt8.toNat_inj.1; rw [hd]; rfl
      subst this; rfl
    · rw [decide_eq_false hd]
      simp only [beq_eq_false_iff_ne, ne_eq]
      intro e2; subst e2; exact hd rfl
theorem pre_any (b o n cap : Nat) (c : UInt8) (t : List UInt8) (w : World) (hl : (c :: t).length = n) (hc : n ≤ cap) (h : Bs w b o (c :: t)) (h63 : c.toNat = 63) (B : Nat) (h0 : w.cell? ⟨B, 0, none⟩ = some (.int .u8 63)) (h1 : w.cell? ⟨B, 1, none⟩ = some (.int .u8 42)) :
    Calls Tryz.prog 142 #[.slice (some ⟨b, o, none⟩) n cap, .slice (some ⟨B, 0, none⟩) 2 2] w fun e w' => e = .returned (.bool (starL t)) ∧ w' = w := by
  rw [← pre_is c t h63]
  have hb : Lib.BytesIn w (some ⟨B, 0, none⟩) 2 [63, 42] := fun _ => ⟨B, 0, rfl, fun i hi => by
    rcases i with _ | _ | i
    · exact h0
    · exact h1
    · omega⟩
  have hx := h.isB.bytesIn
  rw [hl] at hx
  exact Tryz.bytes_HasPrefix_all _ _ n cap 2 2 (numsOf (c :: t)) [63, 42] w (by rw [nums_len, hl]) rfl hc hx hb
theorem var_glob {t : List UInt8} (h : starL t = true) : varR t = globR (t.drop 1) := by unfold varR; rw [if_pos h]
theorem var_plain {t : List UInt8} (h : starL t = false) : varR t = plainR t := by unfold varR; rw [if_neg (by rw [h]; decide)]
set_option maxHeartbeats 2000000 in
set_option maxRecDepth 4000 in
theorem read_var (b o n cap : Nat) (c : UInt8) (t : List UInt8) (w : World) (hl : (c :: t).length = n) (h : Bs w b o (c :: t)) (hn : n ≤ 100000) (hc : n ≤ cap) (h63 : c.toNat = 63) :
    Calls Tryz.prog 126 #[.slice (some ⟨b, o, none⟩) n cap] w fun e w' => e = .returned (rdV (varR t)) ∧ Below w.heap.size w w' := by
  have hn1 : 1 ≤ n := by rw [← hl]; simp
  have htl : t.length = n - 1 := by rw [← hl]; simp
  have hsl : ∀ w, (Instr.slice 22 (.slice (some ⟨b, o, none⟩) n cap) (some (.int .i64 1)) none none).run Tryz.prog w = .ok (.slice (fromA (some ⟨b, o, none⟩) cap 1) (n - 1) (cap - 1)) w := fun w => slice_from _ n cap 1 _ w rfl hn1
  have HP : Hid (∀ (w' : World) (B : Nat), Below w.heap.size w w' → w'.cell? ⟨B, 0, none⟩ = some (.int .u8 63) → w'.cell? ⟨B, 1, none⟩ = some (.int .u8 42) → Calls Tryz.prog 142 #[.slice (some ⟨b, o, none⟩) n cap, .slice (some ⟨B, 0, none⟩) 2 2] w' fun e w2 => e = .returned (.bool (starL t)) ∧ w2 = w') :=
    fun w' B hb h0 h1 => pre_any b o n cap c t w' hl hc (h.next hb) h63 B h0 h1
  have HG : Hid (∀ w' : World, 2 ≤ n → Below w.heap.size w w' → Calls Tryz.prog 143 #[.slice (some ⟨b, o, none⟩) n cap] w' fun e w2 => e = .returned (rdV (globR (t.drop 1))) ∧ Below w'.heap.size w' w2) :=
    fun w' h2 hb => read_glob b o n cap (c :: t) w' hl (h.next hb) hn hc h2
  have HN : Hid (∀ w' : World, Below w.heap.size w w' → Calls Tryz.prog 144 #[.slice (fromA (some ⟨b, o, none⟩) cap 1) (n - 1) (cap - 1)] w' fun e w2 => e = .returned (.tuple #[.string (baL (nameS t)), .int .i64 (nameE t)]) ∧ Below w'.heap.size w' w2) := by
    intro w' hb
    have hi := from_isB (h.next hb) 1 (cap := cap) (by omega)
    exact read_name _ _ _ t w' htl hi (by omega) (by omega)
  clear h hl
  have hcv := Go.Joins.run_convert_bytes_const_at (P := Tryz.prog) (w.alloc (.cells #[.int .i64 0, .int .i64 0, .int .i64 0, .string ⟨#[]⟩] 208)) 22 5 #[.int .u8 63, .int .u8 42] 2 2 (w.heap.size + 1) (by simp) Tryz.underlying22 Tryz.underlying5
  simp only [List.size_toArray, List.length_cons, List.length_nil, Nat.zero_add, Nat.reduceAdd] at hcv
  cases hs : starL t
  · have HV : Hid (varR t = plainR t) := var_plain hs
    rw [hs] at HP
    rcases nameE_cases t with hE | hE | ⟨hE, hz, hS⟩
    · have HM : Hid (varR t = badR 4) := by rw [Hid, HV.out]; exact plain_bad hE (by decide)
      rw [hE] at HN
      clear hE hs
      go_enter Tryz.func126, Tryz.ntmps126
      go_wp2_with fail
      refine (HP.out _ _ ?_ ?_ ?_).mono ?_
      · exact next_trans (alloc_below _ _) (alloc_below _ _)
      · exact (Go.Joins.cell_alloc_mark_at _ _ _ _ _ _ (by simp)).trans rfl
      · exact (Go.Joins.cell_alloc_mark_at _ _ _ _ _ _ (by simp)).trans rfl
      rintro e w1 ⟨rfl, rfl⟩
      go_wp2_with fail
      refine (HN.out _ ?_).mono ?_
      · exact next_trans (alloc_below _ _) (alloc_below _ _)
      rintro e w2 ⟨rfl, hb2⟩
      have HB : Hid (Below w.heap.size w w2) := next_trans (next_trans (alloc_below _ _) (alloc_below _ _)) hb2
      obtain ⟨hcc, hff⟩ := bcells (next_trans (alloc_below _ _) hb2)
      clear hb2
      go_wp2
      rw [HM.out]
      exact bodyPost_ret (v := rdV (badR 4)) (by simp [results, Tryz.results126, go_sem, hcc, rdV, badR, baL]) rfl ⟨rfl, below4 HB.out _ (Nat.le_refl _) _ _ _ _⟩
    · have HM : Hid (varR t = badR 2) := by rw [Hid, HV.out]; exact plain_bad hE (by decide)
      rw [hE] at HN
      clear hE hs
      go_enter Tryz.func126, Tryz.ntmps126
      go_wp2_with fail
      refine (HP.out _ _ ?_ ?_ ?_).mono ?_
      · exact next_trans (alloc_below _ _) (alloc_below _ _)
      · exact (Go.Joins.cell_alloc_mark_at _ _ _ _ _ _ (by simp)).trans rfl
      · exact (Go.Joins.cell_alloc_mark_at _ _ _ _ _ _ (by simp)).trans rfl
      rintro e w1 ⟨rfl, rfl⟩
      go_wp2_with fail
      refine (HN.out _ ?_).mono ?_
      · exact next_trans (alloc_below _ _) (alloc_below _ _)
      rintro e w2 ⟨rfl, hb2⟩
      have HB : Hid (Below w.heap.size w w2) := next_trans (next_trans (alloc_below _ _) (alloc_below _ _)) hb2
      obtain ⟨hcc, hff⟩ := bcells (next_trans (alloc_below _ _) hb2)
      clear hb2
      go_wp2
      rw [HM.out]
      exact bodyPost_ret (v := rdV (badR 2)) (by simp [results, Tryz.results126, go_sem, hcc, rdV, badR, baL]) rfl ⟨rfl, below4 HB.out _ (Nat.le_refl _) _ _ _ _⟩
    · have hsz := take_size t
      rw [hE, hS] at HN
      have HM : Hid (varR t = okR 6 0 (t.take (nameZ t)) (1 + nameZ t)) := by rw [Hid, HV.out]; exact plain_ok hE
      obtain ⟨z, HZ⟩ : ∃ z, Hid (nameZ t = z) := ⟨_, rfl⟩
      rw [HZ.out] at hsz hz HN HM
      obtain ⟨X, HX⟩ : ∃ X, Hid (baL (t.take z) = X) := ⟨_, rfl⟩
      rw [HX.out] at hsz HN
      clear hE hs hS
      go_enter Tryz.func126, Tryz.ntmps126
      go_wp2_with fail
      refine (HP.out _ _ ?_ ?_ ?_).mono ?_
      · exact next_trans (alloc_below _ _) (alloc_below _ _)
      · exact (Go.Joins.cell_alloc_mark_at _ _ _ _ _ _ (by simp)).trans rfl
      · exact (Go.Joins.cell_alloc_mark_at _ _ _ _ _ _ (by simp)).trans rfl
      rintro e w1 ⟨rfl, rfl⟩
      go_wp2_with fail
      refine (HN.out _ ?_).mono ?_
      · exact next_trans (alloc_below _ _) (alloc_below _ _)
      rintro e w2 ⟨rfl, hb2⟩
      have HB : Hid (Below w.heap.size w w2) := next_trans (next_trans (alloc_below _ _) (alloc_below _ _)) hb2
      obtain ⟨hcc, hff⟩ := bcells (next_trans (alloc_below _ _) hb2)
      clear hb2
      go_wp2
      rw [HM.out]
      exact bodyPost_ret (v := rdV (okR 6 0 (t.take z) (1 + z))) (by simp [results, Tryz.results126, go_sem, hcc, rdV, okR, HX.out]) rfl ⟨rfl, below4 HB.out _ (Nat.le_refl _) _ _ _ _⟩
  · have h2 : 2 ≤ n := by have := star_len hs; omega
    have HV : Hid (varR t = globR (t.drop 1)) := var_glob hs
    obtain ⟨m, Hm⟩ : ∃ m, Hid (globR (t.drop 1) = m) := ⟨_, rfl⟩
    rw [hs] at HP
    rw [Hm.out] at HG HV
    clear hs HN
    go_enter Tryz.func126, Tryz.ntmps126
    go_wp2_with fail
    refine (HP.out _ _ ?_ ?_ ?_).mono ?_
    · exact next_trans (alloc_below _ _) (alloc_below _ _)
    · exact (Go.Joins.cell_alloc_mark_at _ _ _ _ _ _ (by simp)).trans rfl
    · exact (Go.Joins.cell_alloc_mark_at _ _ _ _ _ _ (by simp)).trans rfl
    rintro e w1 ⟨rfl, rfl⟩
    go_wp2_with fail
    refine (HG.out _ h2 ?_).mono ?_
    · exact next_trans (alloc_below _ _) (alloc_below _ _)
    rintro e w2 ⟨rfl, hb2⟩
    have HB : Hid (Below w.heap.size w w2) := next_trans (next_trans (alloc_below _ _) (alloc_below _ _)) hb2
    obtain ⟨hcc, hff⟩ := bcells (next_trans (alloc_below _ _) hb2)
    clear hb2
    unfold rdV
    go_wp2
    rw [HV.out]
    exact bodyPost_ret (v := rdV m) (by simp [results, Tryz.results126, go_sem, hcc, rdV]) rfl ⟨rfl, below4 HB.out _ (Nat.le_refl _) _ _ _ _⟩
set_option maxHeartbeats 2000000 in
set_option maxRecDepth 4000 in
theorem end_str (acc : List UInt8) (k : Nat) (w : World) (ha : acc.length ≤ 100000) :
    Calls Tryz.prog 141 #[.string (baL acc), .int .i64 ((k : Int) + 1)] w fun e w' => e = .returned (rdV (endR acc k)) ∧ Below w.heap.size w w' := by
  obtain ⟨X, HX⟩ : ∃ X, Hid (baL acc = X) := ⟨_, rfl⟩
  have hr := fun w => right_any 3 0 (baL acc) w (by rw [baL_size]; omega)
  rw [right_str, baL_size, HX.out] at hr
  rw [HX.out]
  have HR : Hid (∀ w : World, Calls Tryz.prog 157 #[.agg #[.int .i64 (3), .int .i64 (0), .string (X)]] w fun e w' => e = .returned (.bool (decide ((0 : Int) = 0 ∧ acc.length ≤ 1000))) ∧ Below w.heap.size w w') := hr
  clear hr
  by_cases h1 : 1000 < acc.length
  · have HM : Hid (endR acc k = badR 4) := by unfold endR; rw [Hid, if_pos h1]
    rw [show decide ((0 : Int) = 0 ∧ acc.length ≤ 1000) = false by simp; omega] at HR
    go_enter Tryz.func141, Tryz.ntmps141
    go_wp2_with fail
    refine (of_str _ _).mono ?_
    rintro e w1 ⟨rfl, hb1⟩
    go_wp2_with fail
    refine (HR.out _).mono ?_
    rintro e w2 ⟨rfl, hb2⟩
    have HB : Hid (Below w.heap.size w w2) := next_trans (next_trans (alloc_below _ _) hb1) hb2
    obtain ⟨hcc, hff⟩ := bcells (next_trans hb1 hb2)
    clear hb1 hb2
    go_wp2
    rw [HM.out]
    exact bodyPost_ret (v := rdV (badR 4)) (by simp [results, Tryz.results141, go_sem, hcc, rdV, badR, baL]) rfl ⟨rfl, below4 HB.out _ (Nat.le_refl _) _ _ _ _⟩
  · have HM : Hid (endR acc k = okR 3 0 acc (k + 1)) := by unfold endR; rw [Hid, if_neg h1]
    rw [show decide ((0 : Int) = 0 ∧ acc.length ≤ 1000) = true by simp; omega] at HR
    go_enter Tryz.func141, Tryz.ntmps141
    go_wp2_with fail
    refine (of_str _ _).mono ?_
    rintro e w1 ⟨rfl, hb1⟩
    go_wp2_with fail
    refine (HR.out _).mono ?_
    rintro e w2 ⟨rfl, hb2⟩
    have HB : Hid (Below w.heap.size w w2) := next_trans (next_trans (alloc_below _ _) hb1) hb2
    obtain ⟨hcc, hff⟩ := bcells (next_trans hb1 hb2)
    clear hb1 hb2
    go_wp2
    rw [HM.out]
    exact bodyPost_ret (v := rdV (okR 3 0 acc (k + 1))) (by simp [results, Tryz.results141, go_sem, hcc, rdV, okR, HX.out]) rfl ⟨rfl, below4 HB.out _ (Nat.le_refl _) _ _ _ _⟩
end Go.Proofs.YtnhbjhdkpbhioaaGreatDoor
namespace Go.Proofs.YtnhbjhdkpbhioaaGreatDoor
open Go.RowKit
theorem row_snoc (acc : List UInt8) (c : UInt8) : Lib.byteCells acc ++ [.int .u8 (c.toNat : Int)] = Lib.byteCells (acc ++ [c]) := by unfold Lib.byteCells; simp
theorem row_get (acc : List UInt8) (i : Nat) (h : i < acc.length) : (Lib.byteCells acc)[i]? = some (.int .u8 (acc[i].toNat : Int)) := by
  unfold Lib.byteCells; rw [List.getElem?_map, List.getElem?_eq_getElem h]; rfl
theorem own_isB {w : World} {B : Nat} {v : Value} {acc : List UInt8} (h : w.ownsRow B 5 1 v acc.length (Lib.byteCells acc)) : ∃ ao cap, v = .slice ao acc.length cap ∧ IsB w ao acc := by
  rcases h.2 with ⟨rfl, h0⟩ | ⟨g, cap, cur, rfl, _, _, _, _, _, _⟩
  · refine ⟨none, 0, by rw [h0], ?_⟩
    have e : acc = [] := List.eq_nil_of_length_eq_zero h0
    subst e; exact IsB.nil _ _
  · refine ⟨_, cap, rfl, fun _ => ⟨g, 0, rfl, fun i hi => ?_⟩⟩
    rw [Nat.zero_add, h.cellAt i (by omega)]
    exact row_get acc i hi
theorem conv_own {w : World} {B : Nat} {v : Value} {acc : List UInt8} (h : w.ownsRow B 5 1 v acc.length (Lib.byteCells acc)) :
    (convert 22 9 v).run Tryz.prog w = .ok (.string (baL acc)) w := by
  obtain ⟨ao, cap, rfl, hi⟩ := own_isB h
  exact conv_isB ao _ cap acc w rfl hi
theorem drop_at {l : List UInt8} {k : Nat} {c : UInt8} (h : l[k]? = some c) : l.drop k = c :: l.drop (k + 1) := by
  obtain ⟨hk, rfl⟩ := List.getElem?_eq_some_iff.1 h
  exact Q_cons l k hk
theorem str_end_at {l : List UInt8} {k : Nat} {c : UInt8} (acc : List UInt8) (h : l[k]? = some c) (hc : c.toNat = 34) : strA (l.drop k) acc k = endR acc k := by rw [drop_at h, strA_end _ _ _ _ hc]
theorem str_one_at {l : List UInt8} {k : Nat} {c : UInt8} (acc : List UInt8) (h : l[k]? = some c) (h1 : c.toNat ≠ 34) (h2 : c.toNat ≠ 92) : strA (l.drop k) acc k = strA (l.drop (k + 1)) (acc ++ [c]) (k + 1) := by
  rw [drop_at h, strA_one _ _ _ _ h1 h2]
theorem str_esc_at {l : List UInt8} {k : Nat} {c d : UInt8} (acc : List UInt8) (h : l[k]? = some c) (hd : l[k + 1]? = some d) (hc : c.toNat = 92) : strA (l.drop k) acc k = strA (l.drop (k + 2)) (acc ++ [d]) (k + 2) := by
  rw [drop_at h, drop_at hd, strA_esc _ _ _ _ _ hc]
theorem str_esc0_at {l : List UInt8} {k : Nat} {c : UInt8} (acc : List UInt8) (h : l[k]? = some c) (hl : k + 1 = l.length) (hc : c.toNat = 92) : strA (l.drop k) acc k = badR 3 := by
  rw [drop_at h, List.drop_eq_nil_of_le (by omega), strA_esc0 _ _ _ hc]
theorem Bs.get {w : World} {b o : Nat} {l : List UInt8} (h : Bs w b o l) {k : Nat} {c : UInt8} (hc : l[k]? = some c) : w.cell? ⟨b, o + k, none⟩ = some (.int .u8 (c.toNat : Int)) := by
  obtain ⟨hk, rfl⟩ := List.getElem?_eq_some_iff.1 hc
  exact h k hk
theorem str_nil_at (l : List UInt8) (k : Nat) (acc : List UInt8) (h : l.length ≤ k) : strA (l.drop k) acc k = badR 3 := by
  rw [List.drop_eq_nil_of_le h, strA_nil]
theorem keep_at {W w1 : World} {B b : Nat} (h : Below B W w1) (hb : b < B) : (∀ o, w1.cell? ⟨b, o, none⟩ = W.cell? ⟨b, o, none⟩) ∧ (∀ o, w1.frozen? ⟨b, o, none⟩ = W.frozen? ⟨b, o, none⟩) :=
  ⟨fun o => h.cell (p := ⟨b, o, none⟩) hb, fun o => h.frozen (p := ⟨b, o, none⟩) hb⟩
set_option maxHeartbeats 4000000 in
set_option maxRecDepth 4000 in
theorem read_str (b o n cap : Nat) (l : List UInt8) (w : World) (hl : l.length = n) (h : Bs w b o l) (hn : n ≤ 100000) (h1 : 1 ≤ n) :
    Calls Tryz.prog 125 #[.slice (some ⟨b, o, none⟩) n cap] w fun e w' => e = .returned (rdV (strA (l.drop 1) [] 1)) ∧ Below w.heap.size w w' := by
  obtain ⟨i0, hi, hz0, hz1, hz2⟩ := inU'
  obtain ⟨B, HB⟩ : ∃ B, Hid (B = w.heap.size + 1) := ⟨_, rfl⟩
  obtain ⟨R, HR⟩ : ∃ R, Hid (strA (l.drop 1) [] 1 = R) := ⟨_, rfl⟩
  rw [HR.out]
  have HI : Hid (Bs w b o l) := h
  have HL : Hid (l.length = n) := hl
  clear h hl
  go_enter Tryz.func125, Tryz.ntmps125
  go_wp2
  obtain ⟨W, HW0, HBW, hw0, hw1, hw2, hw3, hf⟩ : ∃ W, Hid (w.alloc (.cells #[.int .i64 0, .int .i64 0, .int .i64 0, .string ⟨#[]⟩] 208) = W) ∧ Hid (W.heap.size = B) ∧ W.cell? ⟨w.heap.size, 0, none⟩ = some (.int .i64 0) ∧ W.cell? ⟨w.heap.size, 1, none⟩ = some (.int .i64 0) ∧ W.cell? ⟨w.heap.size, 2, none⟩ = some (.int .i64 0) ∧ W.cell? ⟨w.heap.size, 3, none⟩ = some (.string ⟨#[]⟩) ∧ ∀ q, W.frozen? ⟨w.heap.size, q, none⟩ = false :=
    ⟨_, rfl, by rw [Hid, HB.out]; simp, by simp, by simp, by simp, by simp, by intro q; simp⟩
  rw [HW0.out]
  go_loopw [5, 6] (fun v i wr => ∃ (k : Nat) (acc : List UInt8), 1 ≤ k ∧ k ≤ n ∧ i = .int .i64 k ∧ Hid (strA (l.drop k) acc k = R) ∧ Hid (wr.ownsRow B 5 1 v acc.length (Lib.byteCells acc)) ∧ Hid (Below B W wr) ∧ Hid (acc.length ≤ k)) (fun _ i _ => n - (intOf i).toNat)
  case atStart => exact ⟨1, [], Nat.le_refl _, h1, rfl, HR, World.ownsRow_nil _ _ _ _, Below.refl _ _, Nat.zero_le _⟩
  case round =>
    obtain ⟨k, acc, hk1, hk, rfl, HS, HO, HW, HA⟩ := hrel
    have HWw : Hid (Below w.heap.size w wr) := by
      have e := HBW.out
      have e2 := HW0.out
      have e3 : Below w.heap.size w W := by rw [← e2]; exact alloc_below _ _
      exact below_next e3 (by rw [e]; exact HW.out) e3.size
    obtain ⟨hcc, hff⟩ := keep_at (b := w.heap.size) HW.out (by have := HB.out; omega)
    have HZ : Hid (B ≤ wr.heap.size) := by have := HW.out.size; have := HBW.out; rw [Hid]; omega
    by_cases hlt : k < n
    · have hli : (k : Int) < (n : Int) := by omega
      have hkl : k < l.length := by rw [HL.out]; exact hlt
      obtain ⟨c, HC⟩ : ∃ c, Hid (l[k]? = some c) := ⟨_, List.getElem?_eq_getElem hkl⟩
      have c0 := (HI.out.next HWw.out).get HC.out
      by_cases c34 : c.toNat = 34
      · have d1 : ((c.toNat : Int) == 34) = true := by simp; omega
        have HM : Hid (endR acc k = R) := by rw [Hid, ← str_end_at acc HC.out c34]; exact HS.out
        have hcv := conv_own HO.out
        have HE : Hid (∀ w' : World, Calls Tryz.prog 141 #[.string (baL acc), .int .i64 ((k : Int) + 1)] w' fun e w2 => e = .returned (rdV R) ∧ Below w'.heap.size w' w2) := by
          intro w'; rw [← HM.out]; exact end_str acc k w' (by have := HA.out; omega)
        clear HS c34
        go_wp2_with fail
        refine (HE.out _).mono ?_
        rintro e w1 ⟨rfl, hb1⟩
        have HB1 : Hid (Below w.heap.size w w1) := next_trans HWw.out hb1
        obtain ⟨hcc2, hff2⟩ := keep_at (b := w.heap.size) hb1 (by have := HZ.out; have := HB.out; omega)
        clear hb1
        unfold rdV
        go_wp2
        exact bodyPost_ret (v := rdV R) (by simp [results, Tryz.results125, go_sem, hcc, hcc2, hw0, hw1, hw2, hw3, rdV]) rfl ⟨rfl, below4 HB1.out _ (Nat.le_refl _) _ _ _ _⟩
      · have d1 : ((c.toNat : Int) == 34) = false := by simp; omega
        by_cases c92 : c.toNat = 92
        · have d2 : ((c.toNat : Int) == 92) = true := by simp; omega
          by_cases hz : k + 1 = n
          · have hzi : ((k : Int) + 1 == (n : Int)) = true := by simp; omega
            have HM : Hid (badR 3 = R) := by rw [Hid, ← str_esc0_at acc HC.out (by rw [HL.out]; exact hz) c92]; exact HS.out
            clear HS c34 c92
            go_wp2
            rw [← HM.out]
            exact bodyPost_ret (v := rdV (badR 3)) (by simp [results, Tryz.results125, go_sem, hcc, hw0, hw1, hw2, hw3, rdV, badR, baL]) rfl ⟨rfl, below4 HWw.out _ (Nat.le_refl _) _ _ _ _⟩
          · have hzi : ((k : Int) + 1 == (n : Int)) = false := by simp; omega
            have hzl : (k : Int) + 1 < (n : Int) := by omega
            have hkl2 : k + 1 < l.length := by rw [HL.out]; omega
            obtain ⟨d, HD⟩ : ∃ d, Hid (l[k + 1]? = some d) := ⟨_, List.getElem?_eq_getElem hkl2⟩
            have HS2 : Hid (strA (l.drop (k + 2)) (acc ++ [d]) (k + 2) = R) := by rw [Hid, ← str_esc_at acc HC.out HD.out c92]; exact HS.out
            have c1 := (HI.out.next HWw.out).get HD.out
            clear HS c34 c92
            go_wp2_with (at_builtin; refine wpList_append_own _ rfl _ _ 22 rfl B 5 i0 (.int .u8 0) 1 1 Tryz.underlying22 hi hz0 hz1 hz2 rfl (by decide) _ _ _ rfl (HO.out.alloc _) ⟨wr.heap.size, 0, none⟩ 1 1 [.int .u8 (d.toNat : Int)] rfl rfl ?c1 ?c2 ?c3 ?c4 ?c5 ?_)
            case c1 =>
              intro j u hj
              match j, hj with
              | 0, hj => simp at hj; subst hj; simp [Addr.add]
            case c2 => intro u hu; simp at hu; subst hu; rfl
            case c3 => have := HA.out; unfold maxLen; omega
            case c4 => have := HA.out; omega
            case c5 => have := HZ.out; simp; omega
            intro s2 w2 ho hg _
            have HO2 : Hid (w2.ownsRow B 5 1 s2 (acc ++ [d]).length (Lib.byteCells (acc ++ [d]))) := by
              rw [row_snoc] at ho
              rw [Hid, List.length_append]; exact ho
            have HW2 : Hid (Below B W w2) := HW.out.trans (((Below.refl B wr).alloc HZ.out _).grown hg (by have := HZ.out; simp; omega) (fun k hk => (HO.out.lt k hk).1))
            have HA2 : Hid ((acc ++ [d]).length ≤ k + 2) := by have := HA.out; rw [Hid, List.length_append, List.length_singleton]; omega
            clear ho hg
            go_wp2
            go_round
            case rel => exact ⟨k + 2, acc ++ [d], by omega, by omega, by go_num, HS2, HO2, HW2, HA2⟩
            case measure => simp [intOf]; omega
        · have d2 : ((c.toNat : Int) == 92) = false := by simp; omega
          have HS2 : Hid (strA (l.drop (k + 1)) (acc ++ [c]) (k + 1) = R) := by rw [Hid, ← str_one_at acc HC.out c34 c92]; exact HS.out
          clear HS c34 c92
          go_wp2_with (at_builtin; refine wpList_append_own _ rfl _ _ 22 rfl B 5 i0 (.int .u8 0) 1 1 Tryz.underlying22 hi hz0 hz1 hz2 rfl (by decide) _ _ _ rfl (HO.out.alloc _) ⟨wr.heap.size, 0, none⟩ 1 1 [.int .u8 (c.toNat : Int)] rfl rfl ?c1 ?c2 ?c3 ?c4 ?c5 ?_)
          case c1 =>
            intro j u hj
            match j, hj with
            | 0, hj => simp at hj; subst hj; simp [Addr.add]
          case c2 => intro u hu; simp at hu; subst hu; rfl
          case c3 => have := HA.out; unfold maxLen; omega
          case c4 => have := HA.out; omega
          case c5 => have := HZ.out; simp; omega
          intro s2 w2 ho hg _
          have HO2 : Hid (w2.ownsRow B 5 1 s2 (acc ++ [c]).length (Lib.byteCells (acc ++ [c]))) := by
            rw [row_snoc] at ho
            rw [Hid, List.length_append]; exact ho
          have HW2 : Hid (Below B W w2) := HW.out.trans (((Below.refl B wr).alloc HZ.out _).grown hg (by have := HZ.out; simp; omega) (fun k hk => (HO.out.lt k hk).1))
          have HA2 : Hid ((acc ++ [c]).length ≤ k + 1) := by have := HA.out; rw [Hid, List.length_append, List.length_singleton]; omega
          clear ho hg
          go_wp2
          go_round
          case rel => exact ⟨k + 1, acc ++ [c], by omega, by omega, by go_num, HS2, HO2, HW2, HA2⟩
          case measure => simp [intOf]; omega
    · have hli : ¬ (k : Int) < (n : Int) := by omega
      have HM : Hid (badR 3 = R) := by rw [Hid, ← str_nil_at l k acc (by rw [HL.out]; omega)]; exact HS.out
      go_wp2
      rw [← HM.out]
      exact bodyPost_ret (v := rdV (badR 3)) (by simp [results, Tryz.results125, go_sem, hcc, hw0, hw1, hw2, hw3, rdV, badR, baL]) rfl ⟨rfl, below4 HWw.out _ (Nat.le_refl _) _ _ _ _⟩
end Go.Proofs.YtnhbjhdkpbhioaaGreatDoor
namespace Go.Proofs.YtnhbjhdkpbhioaaGreatDoor
open Go.RowKit
theorem index_line : ∀ l : List UInt8, (if 0 ≤ Lib.index l [10] then (Lib.index l [10]).toNat else l.length) = runN lineB l
  | [] => rfl
  | c :: r => by
    have ih := index_line r
    have hge := Lib.index_ge r [10]
    rw [run_cons]
    by_cases h : c.toNat = 10
    · have hc : c = 10 := by apply UInt8.toNat_inj.1; rw [h]; rfl
      subst hc
      have e : Lib.index (10 :: r) [10] = 0 := by unfold Lib.index; rfl
      rw [e]; rfl
    · have hb : lineB c = true := by unfold lineB; simp [h]
      have hp : ([10] : List UInt8).isPrefixOf (c :: r) = false := by
        show ((10 : UInt8) == c && true) = false
        simp only [Bool.and_true, beq_eq_false_iff_ne, ne_eq]
        intro e; subst e; exact h rfl
      have e : Lib.index (c :: r) [10] = if Lib.index r [10] == -1 then -1 else Lib.index r [10] + 1 := by
        conv => lhs; unfold Lib.index
        rw [hp]; rfl
      rw [e, if_pos hb]
      by_cases h1 : Lib.index r [10] = -1
      · rw [h1] at ih ⊢
        rw [← ih]; simp
      · have h2 : (Lib.index r [10] == -1) = false := by simpa using h1
        have e3 : (if (Lib.index r [10] == -1) = true then -1 else Lib.index r [10] + 1) = Lib.index r [10] + 1 := by rw [h2]; rfl
        rw [e3, ← ih, if_pos (by omega), if_pos (by omega)]
        omega
theorem cut_line (p : Option Addr) (n c : Nat) (l : List UInt8) (hl : l.length = n) : ∃ v1 v2, Lib.cutV p n c 1 (Lib.index l [10]) = .tuple #[.slice p (runN lineB l) c, v1, v2] := by
  have h := index_line l
  unfold Lib.cutV
  by_cases h0 : 0 ≤ Lib.index l [10]
  · rw [if_pos h0] at h ⊢
    rw [h]; exact ⟨_, _, rfl⟩
  · rw [if_neg h0] at h ⊢
    rw [← h, hl]; exact ⟨_, _, rfl⟩
def MaxW (w : World) : Prop := ∃ m, w.cell? ⟨2, 0, none⟩ = some (.int .i64 m)
theorem MaxW.next {w w' : World} (h : MaxW w) (hb : Below w.heap.size w w') : MaxW w' := by
  obtain ⟨m, hm⟩ := h
  exact ⟨m, keep_cell hb hm⟩
theorem cut_any (b o n cap : Nat) (l : List UInt8) (w : World) (hl : l.length = n) (hc : n ≤ cap) (h : Bs w b o l) (hn : n ≤ 100000) (hm : MaxW w) (B : Nat) (h0 : w.cell? ⟨B, 0, none⟩ = some (.int .u8 10)) :
    Calls Tryz.prog 140 #[.slice (some ⟨b, o, none⟩) n cap, .slice (some ⟨B, 0, none⟩) 1 1] w fun e w' => (∃ v1 v2, e = .returned (.tuple #[.slice (some ⟨b, o, none⟩) (runN lineB l) cap, v1, v2])) ∧ Below w.heap.size w w' := by
  obtain ⟨m, hm⟩ := hm
  have hb : Lib.BytesIn w (some ⟨B, 0, none⟩) 1 [10] := fun _ => ⟨B, 0, rfl, fun i hi => by
    obtain rfl : i = 0 := by omega
    exact h0⟩
  have hx := h.isB.bytesIn
  rw [hl] at hx
  refine (Tryz.bytes_Cut_all _ _ n cap 1 1 (numsOf l) [10] m w (by rw [nums_len, hl]) rfl (nums_bd l) (by simp) hx hb (by simp) hc (by omega) (by omega) hm).mono ?_
  rintro e w' ⟨rfl, q, rfl⟩
  rw [nums_bytes]
  obtain ⟨v1, v2, e⟩ := cut_line (some ⟨b, o, none⟩) n cap l hl
  have e2 : Lib.bytesOf [10] = [10] := rfl
  rw [e2, e]
  exact ⟨⟨v1, v2, rfl⟩, (show SameW w (w.drewN q) from ⟨q, rfl⟩).below _⟩
set_option maxHeartbeats 2000000 in
set_option maxRecDepth 4000 in
theorem last_line (b o n cap k : Nat) (l : List UInt8) (w : World) (hl : l.length = n) (h : Bs w b o l) (hn : n ≤ 100000) (hc : n ≤ cap) (hk : k < n) (hm : MaxW w) :
    Calls Tryz.prog 124 #[.slice (some ⟨b, o, none⟩) n cap, .int .i64 (k : Int)] w fun e w' => e = .returned (.int .i64 ((k : Int) + (runN lineB (l.drop k) : Int) - 1)) ∧ Below w.heap.size w w' := by
  have hsl : ∀ w, (Instr.slice 22 (.slice (some ⟨b, o, none⟩) n cap) (some (.int .i64 (k : Int))) none none).run Tryz.prog w = .ok (.slice (some ⟨b, o + k, none⟩) (n - k) (cap - k)) w := fun w => by
    rw [slice_from _ n cap k _ w rfl (by omega), from_at b o cap k (by omega)]
  have hcv := Lib.run_convert_bytes_const (P := Tryz.prog) w 22 5 #[.int .u8 10] 1 1 Tryz.underlying22 Tryz.underlying5
  simp only [List.size_toArray, List.length_cons, List.length_nil, Nat.zero_add, Nat.reduceAdd] at hcv
  have hz := run_le lineB (l.drop k)
  have hzl : (l.drop k).length = n - k := by rw [List.length_drop, hl]
  have HC : Hid (∀ (w' : World) (B : Nat), Below w.heap.size w w' → w'.cell? ⟨B, 0, none⟩ = some (.int .u8 10) → Calls Tryz.prog 140 #[.slice (some ⟨b, o + k, none⟩) (n - k) (cap - k), .slice (some ⟨B, 0, none⟩) 1 1] w' fun e w2 => (∃ v1 v2, e = .returned (.tuple #[.slice (some ⟨b, o + k, none⟩) (runN lineB (l.drop k)) (cap - k), v1, v2])) ∧ Below w'.heap.size w' w2) :=
    fun w' B hb h0 => cut_any b (o + k) (n - k) (cap - k) (l.drop k) w' hzl (by omega) ((h.next hb).drop k) (by omega) (hm.next hb) B h0
  obtain ⟨z, HZ⟩ : ∃ z, Hid (runN lineB (l.drop k) = z) := ⟨_, rfl⟩
  rw [HZ.out] at HC hz ⊢
  rw [hzl] at hz
  clear h hm
  go_enter Tryz.func124, Tryz.ntmps124
  go_wp2_with fail
  refine (HC.out _ _ ?_ ?_).mono ?_
  · exact alloc_below _ _
  · exact (Go.Joins.cell_alloc_mark_at _ _ _ _ _ _ rfl).trans rfl
  rintro e w1 ⟨⟨v1, v2, rfl⟩, hb1⟩
  have HB : Hid (Below w.heap.size w w1) := next_trans (alloc_below _ _) hb1
  clear hb1
  go_wp2
  go_ret
  exact ⟨rfl, HB.out⟩
theorem line_pos {l : List UInt8} {p : Nat} {c : UInt8} (h : l[p]? = some c) (hc : c.toNat = 59) : 1 ≤ runN lineB (l.drop p) ∧ p + runN lineB (l.drop p) ≤ l.length := by
  have hl := run_le lineB (l.drop p)
  rw [List.length_drop] at hl
  obtain ⟨hp, _⟩ := List.getElem?_eq_some_iff.1 h
  refine ⟨?_, by omega⟩
  rw [drop_at h, run_cons, if_pos (by unfold lineB; rw [hc]; decide)]
  omega
theorem Q_blank' {l : List UInt8} {p : Nat} {c : UInt8} (h : l[p]? = some c) (hb : blankB c = true) (acc : List Tk) : scanQ l p acc = scanQ l (p + 1) acc := by
  obtain ⟨hp, rfl⟩ := List.getElem?_eq_some_iff.1 h
  exact Q_blank l p acc hp hb
theorem Q_line' {l : List UInt8} {p : Nat} {c : UInt8} (h : l[p]? = some c) (hb : c.toNat = 59) (acc : List Tk) : scanQ l p acc = scanQ l (p + runN lineB (l.drop p)) acc := by
  obtain ⟨hp, rfl⟩ := List.getElem?_eq_some_iff.1 h
  exact Q_line l p acc hp hb
def stopL (l : List UInt8) (p : Nat) : Prop := ∀ c, l[p]? = some c → blankB c = false ∧ c.toNat ≠ 59
theorem stop_at {l : List UInt8} {p : Nat} {c : UInt8} (h : l[p]? = some c) (h1 : c.toNat ≠ 59) (h2 : c.toNat ≠ 32) (h3 : c.toNat ≠ 9) (h4 : c.toNat ≠ 10) (h5 : c.toNat ≠ 13) : stopL l p := by
  intro d hd
  rw [h] at hd
  obtain rfl := Option.some.inj hd
  exact ⟨by unfold blankB; simp; omega, h1⟩
theorem stop_end {l : List UInt8} {p : Nat} (h : l.length ≤ p) : stopL l p := by
  intro d hd
  rw [List.getElem?_eq_none h] at hd
  exact absurd hd (by simp)
set_option maxHeartbeats 4000000 in
set_option maxRecDepth 4000 in
theorem skip_any (ao : Option Addr) (n cap k : Nat) (l : List UInt8) (w : World) (hl : l.length = n) (h : IsB w ao l) (hn : n ≤ 100000) (hc : n ≤ cap) (hk : k ≤ n) (hm : MaxW w) :
    Calls Tryz.prog 104 #[.slice ao n cap, .int .i64 (k : Int)] w fun e w' => ∃ p : Nat, e = .returned (.int .i64 (p : Int)) ∧ k ≤ p ∧ p ≤ n ∧ (∀ acc, scanQ l k acc = scanQ l p acc) ∧ stopL l p ∧ Below w.heap.size w w' := by
  have HI : Hid (IsB w ao l) := h
  have HL : Hid (l.length = n) := hl
  have HMx : Hid (MaxW w) := hm
  clear h hl hm
  go_enter Tryz.func104, Tryz.ntmps104
  go_wp2
  go_loopw [1] (fun i wr => ∃ p : Nat, k ≤ p ∧ p ≤ n ∧ i = .int .i64 p ∧ Hid (∀ acc, scanQ l k acc = scanQ l p acc) ∧ Hid (Below w.heap.size w wr)) (fun i _ => n - (intOf i).toNat)
  case atStart => exact ⟨k, Nat.le_refl _, hk, rfl, fun _ => rfl, Below.refl _ _⟩
  case round =>
    obtain ⟨p, hkp, hpn, rfl, HS, HW⟩ := hrel
    by_cases hlt : p < n
    · have hli : (p : Int) < (n : Int) := by omega
      have hpl : p < l.length := by rw [HL.out]; exact hlt
      obtain ⟨b, o, rfl, hbs⟩ := HI.out (by omega)
      have HI2 : Hid (Bs w b o l) := hbs
      obtain ⟨c, HC⟩ : ∃ c, Hid (l[p]? = some c) := ⟨_, List.getElem?_eq_getElem hpl⟩
      have c0 := (HI2.out.next HW.out).get HC.out
      clear hbs
      by_cases c59 : c.toNat = 59
      · have d1 : ((c.toNat : Int) == 59) = true := by simp; omega
        have HQ := Q_line' HC.out c59
        obtain ⟨hz1, hz2⟩ := line_pos HC.out c59
        have HLL : Hid (Calls Tryz.prog 124 #[.slice (some ⟨b, o, none⟩) n cap, .int .i64 (p : Int)] wr fun e w' => e = .returned (.int .i64 ((p : Int) + (runN lineB (l.drop p) : Int) - 1)) ∧ Below wr.heap.size wr w') :=
          last_line b o n cap p l wr HL.out (HI2.out.next HW.out) hn hc hlt (HMx.out.next HW.out)
        obtain ⟨z, HZ⟩ : ∃ z, Hid (runN lineB (l.drop p) = z) := ⟨_, rfl⟩
        rw [HZ.out] at HLL HQ hz1 hz2
        rw [HL.out] at hz2
        have HS2 : Hid (∀ acc, scanQ l k acc = scanQ l (p + z) acc) := fun acc => (HS.out acc).trans (HQ acc)
        clear c59 HQ
        go_wp2_with fail
        refine HLL.out.mono ?_
        rintro e w1 ⟨rfl, hb1⟩
        have HB : Hid (Below w.heap.size w w1) := next_trans HW.out hb1
        clear hb1 c0
        go_wp2
        go_round
        case rel => exact ⟨p + z, by omega, by omega, by go_num, HS2, HB⟩
        case measure => simp [intOf]; omega
      · have d1 : ((c.toNat : Int) == 59) = false := by simp; omega
        by_cases hb : blankB c = true
        · have HS2 : Hid (∀ acc, scanQ l k acc = scanQ l (p + 1) acc) := fun acc => (HS.out acc).trans (Q_blank' HC.out hb acc)
          unfold blankB at hb
          rw [decide_eq_true_eq] at hb
          rcases hb with hb | hb | hb | hb
          · have e1 : ((c.toNat : Int) == 32) = true := by simp; omega
            clear c59 hb
            go_wp2
            go_round
            case rel => exact ⟨p + 1, by omega, by omega, by go_num, HS2, HW⟩
            case measure => simp [intOf]; omega
          · have e1 : ((c.toNat : Int) == 32) = false := by simp; omega
            have e2 : ((c.toNat : Int) == 9) = true := by simp; omega
            clear c59 hb
            go_wp2
            go_round
            case rel => exact ⟨p + 1, by omega, by omega, by go_num, HS2, HW⟩
            case measure => simp [intOf]; omega
          · have e1 : ((c.toNat : Int) == 32) = false := by simp; omega
            have e2 : ((c.toNat : Int) == 9) = false := by simp; omega
            have e3 : ((c.toNat : Int) == 10) = true := by simp; omega
            clear c59 hb
            go_wp2
            go_round
            case rel => exact ⟨p + 1, by omega, by omega, by go_num, HS2, HW⟩
            case measure => simp [intOf]; omega
          · have e1 : ((c.toNat : Int) == 32) = false := by simp; omega
            have e2 : ((c.toNat : Int) == 9) = false := by simp; omega
            have e3 : ((c.toNat : Int) == 10) = false := by simp; omega
            have e4 : ((c.toNat : Int) == 13) = true := by simp; omega
            clear c59 hb
            go_wp2
            go_round
            case rel => exact ⟨p + 1, by omega, by omega, by go_num, HS2, HW⟩
            case measure => simp [intOf]; omega
        · have hnb : ¬ (c.toNat = 32 ∨ c.toNat = 9 ∨ c.toNat = 10 ∨ c.toNat = 13) := by
            intro hx
            exact hb (by unfold blankB; exact decide_eq_true hx)
          have HT : Hid (stopL l p) := stop_at HC.out c59 (by omega) (by omega) (by omega) (by omega)
          have e1 : ((c.toNat : Int) == 32) = false := by simp; omega
          have e2 : ((c.toNat : Int) == 9) = false := by simp; omega
          have e3 : ((c.toNat : Int) == 10) = false := by simp; omega
          have e4 : ((c.toNat : Int) == 13) = false := by simp; omega
          clear c59 hb hnb
          go_wp2
          go_ret
          exact ⟨p, rfl, hkp, hpn, HS.out, HT.out, HW.out⟩
    · have hli : ¬ (p : Int) < (n : Int) := by omega
      have HT : Hid (stopL l p) := stop_end (by rw [HL.out]; omega)
      go_wp2
      go_ret
      exact ⟨p, rfl, hkp, hpn, HS.out, HT.out, HW.out⟩
end Go.Proofs.YtnhbjhdkpbhioaaGreatDoor
namespace Go.Proofs.YtnhbjhdkpbhioaaGreatDoor
open Go.RowKit
set_option maxHeartbeats 4000000 in
set_option maxRecDepth 4000 in
theorem read_one (b o n cap : Nat) (c : UInt8) (t : List UInt8) (w : World) (hl : (c :: t).length = n) (h : Bs w b o (c :: t)) (hn : n ≤ 100000) (hc : n ≤ cap) :
    Calls Tryz.prog 105 #[.slice (some ⟨b, o, none⟩) n cap] w fun e w' => e = .returned (rdV (oneL (c :: t))) ∧ Below w.heap.size w w' := by
  have hn1 : 1 ≤ n := by rw [← hl]; simp
  have hni : (0 : Int) < (n : Int) := by omega
  have c0 : w.cell? ⟨b, o, none⟩ = some (.int .u8 (c.toNat : Int)) := by have := h.get (k := 0) rfl; exact this
  have c1 : (w.alloc (.cells #[.int .i64 0, .int .i64 0, .int .i64 0, .string ⟨#[]⟩] 208)).cell? ⟨b, o, none⟩ = some (.int .u8 (c.toNat : Int)) := alloc_cell c0
  have HS : Hid (∀ w' : World, Below w.heap.size w w' → Calls Tryz.prog 125 #[.slice (some ⟨b, o, none⟩) n cap] w' fun e w2 => e = .returned (rdV (strA t [] 1)) ∧ Below w'.heap.size w' w2) :=
    fun w' hb => read_str b o n cap (c :: t) w' hl (h.next hb) hn hn1
  have HV : Hid (∀ w' : World, c.toNat = 63 → Below w.heap.size w w' → Calls Tryz.prog 126 #[.slice (some ⟨b, o, none⟩) n cap] w' fun e w2 => e = .returned (rdV (varR t)) ∧ Below w'.heap.size w' w2) :=
    fun w' h63 hb => read_var b o n cap c t w' hl (h.next hb) hn hc h63
  have HW : Hid (∀ w' : World, Below w.heap.size w w' → Calls Tryz.prog 127 #[.slice (some ⟨b, o, none⟩) n cap] w' fun e w2 => e = .returned (rdV (wordR (c :: t))) ∧ Below w'.heap.size w' w2) :=
    fun w' hb => read_word b o n cap (c :: t) w' hl (h.next hb) hn hc
  clear h hl c0
  by_cases k1 : c.toNat = 40
  · have d1 : ((c.toNat : Int) == 40) = true := by simp; omega
    have HM : Hid (oneL (c :: t) = okR 4 0 [] 1) := one_open c t k1
    clear k1
    go_enter Tryz.func105, Tryz.ntmps105
    go_wp2
    rw [HM.out]
    exact bodyPost_ret (v := rdV (okR 4 0 [] 1)) (by simp [results, Tryz.results105, go_sem, rdV, okR, baL]) rfl ⟨rfl, alloc_below _ _⟩
  have d1 : ((c.toNat : Int) == 40) = false := by simp; omega
  by_cases k2 : c.toNat = 41
  · have d2 : ((c.toNat : Int) == 41) = true := by simp; omega
    have HM : Hid (oneL (c :: t) = okR 5 0 [] 1) := one_close c t k2
    clear k1 k2
    go_enter Tryz.func105, Tryz.ntmps105
    go_wp2
    rw [HM.out]
    exact bodyPost_ret (v := rdV (okR 5 0 [] 1)) (by simp [results, Tryz.results105, go_sem, rdV, okR, baL]) rfl ⟨rfl, alloc_below _ _⟩
  have d2 : ((c.toNat : Int) == 41) = false := by simp; omega
  by_cases k3 : c.toNat = 126
  · have d3 : ((c.toNat : Int) == 126) = true := by simp; omega
    have HM : Hid (oneL (c :: t) = okR 8 0 [] 1) := one_not c t k3
    clear k1 k2 k3
    go_enter Tryz.func105, Tryz.ntmps105
    go_wp2
    rw [HM.out]
    exact bodyPost_ret (v := rdV (okR 8 0 [] 1)) (by simp [results, Tryz.results105, go_sem, rdV, okR, baL]) rfl ⟨rfl, alloc_below _ _⟩
  have d3 : ((c.toNat : Int) == 126) = false := by simp; omega
  by_cases k4 : c.toNat = 34
  · have d4 : ((c.toNat : Int) == 34) = true := by simp; omega
    have HM : Hid (oneL (c :: t) = strA t [] 1) := one_str c t k4
    obtain ⟨m, Hm⟩ : ∃ m, Hid (strA t [] 1 = m) := ⟨_, rfl⟩
    rw [Hm.out] at HS HM
    clear k1 k2 k3 k4
    go_enter Tryz.func105, Tryz.ntmps105
    go_wp2_with fail
    refine (HS.out _ (alloc_below _ _)).mono ?_
    rintro e w1 ⟨rfl, hb1⟩
    have HB : Hid (Below w.heap.size w w1) := next_trans (alloc_below _ _) hb1
    obtain ⟨hcc, hff⟩ := bcells hb1
    clear hb1
    unfold rdV
    go_wp2
    rw [HM.out]
    exact bodyPost_ret (v := rdV m) (by simp [results, Tryz.results105, go_sem, hcc, rdV]) rfl ⟨rfl, below4 HB.out _ (Nat.le_refl _) _ _ _ _⟩
  have d4 : ((c.toNat : Int) == 34) = false := by simp; omega
  by_cases k5 : c.toNat = 63
  · have d5 : ((c.toNat : Int) == 63) = true := by simp; omega
    have HM : Hid (oneL (c :: t) = varR t) := one_var c t k5
    have HV2 : Hid (∀ w' : World, Below w.heap.size w w' → Calls Tryz.prog 126 #[.slice (some ⟨b, o, none⟩) n cap] w' fun e w2 => e = .returned (rdV (varR t)) ∧ Below w'.heap.size w' w2) := fun w' hb => HV.out w' k5 hb
    obtain ⟨m, Hm⟩ : ∃ m, Hid (varR t = m) := ⟨_, rfl⟩
    rw [Hm.out] at HV2 HM
    clear k1 k2 k3 k4 k5 HV
    go_enter Tryz.func105, Tryz.ntmps105
    go_wp2_with fail
    refine (HV2.out _ (alloc_below _ _)).mono ?_
    rintro e w1 ⟨rfl, hb1⟩
    have HB : Hid (Below w.heap.size w w1) := next_trans (alloc_below _ _) hb1
    obtain ⟨hcc, hff⟩ := bcells hb1
    clear hb1
    unfold rdV
    go_wp2
    rw [HM.out]
    exact bodyPost_ret (v := rdV m) (by simp [results, Tryz.results105, go_sem, hcc, rdV]) rfl ⟨rfl, below4 HB.out _ (Nat.le_refl _) _ _ _ _⟩
  · have d5 : ((c.toNat : Int) == 63) = false := by simp; omega
    have HM : Hid (oneL (c :: t) = wordR (c :: t)) := one_word c t (by omega)
    obtain ⟨m, Hm⟩ : ∃ m, Hid (wordR (c :: t) = m) := ⟨_, rfl⟩
    rw [Hm.out] at HW HM
    clear k1 k2 k3 k4 k5
    go_enter Tryz.func105, Tryz.ntmps105
    go_wp2_with fail
    refine (HW.out _ (alloc_below _ _)).mono ?_
    rintro e w1 ⟨rfl, hb1⟩
    have HB : Hid (Below w.heap.size w w1) := next_trans (alloc_below _ _) hb1
    obtain ⟨hcc, hff⟩ := bcells hb1
    clear hb1
    unfold rdV
    go_wp2
    rw [HM.out]
    exact bodyPost_ret (v := rdV m) (by simp [results, Tryz.results105, go_sem, hcc, rdV]) rfl ⟨rfl, below4 HB.out _ (Nat.le_refl _) _ _ _ _⟩
def faultC (a e : Int) : Array Value := #[.string ⟨#[99, 104, 97, 114]⟩, .int .i64 a, .iface 118 (.int .i64 e)]
def FaultAt (w : World) (B : Nat) (a e : Int) : Prop := w.heap[B]? = some (.cells (faultC a e) 137 (0, 0))
theorem FaultAt.next {w w' : World} {B : Nat} {a e : Int} (h : FaultAt w B a e) (hb : Below w.heap.size w w') : FaultAt w' B a e := by
  unfold FaultAt at *
  have hlt : B < w.heap.size := by
    rcases Nat.lt_or_ge B w.heap.size with h1 | h1
    · exact h1
    · rw [Array.getElem?_eq_none h1] at h; exact absurd h (by simp)
  rw [hb.block B hlt]; exact h
theorem fault_any (a e : Int) (w : World) :
    Calls Tryz.prog 103 #[.int .i64 a, .int .i64 e] w fun r w' => r = .returned (.iface 133 (.pointer (some ⟨w.heap.size, 0, none⟩))) ∧ FaultAt w' w.heap.size a e ∧ Below w.heap.size w w' := by
  go_enter Tryz.func103, Tryz.ntmps103
  go_wp2
  go_ret
  refine ⟨rfl, ?_, alloc_below _ _⟩
  show (w.heap.push _)[w.heap.size]? = _
  rw [Array.getElem?_push_size]; rfl
end Go.Proofs.YtnhbjhdkpbhioaaGreatDoor
namespace Go.Proofs.YtnhbjhdkpbhioaaGreatDoor
open Go.RowKit
theorem inT : (Tryz.prog.info? 208).map (fun i => (i.zero, i.size, i.bytes)) = some (some (.agg #[.int .i64 (0), .int .i64 (0), .int .i64 (0), .string (⟨#[]⟩)]), 4, 40) := by kernel_rfl
theorem inT' : ∃ i, Tryz.prog.info? 208 = some i ∧ i.zero = some (.agg #[.int .i64 (0), .int .i64 (0), .int .i64 (0), .string (⟨#[]⟩)]) ∧ i.size = 4 ∧ i.bytes = 40 := by
  obtain ⟨i, h, e⟩ := Option.map_eq_some_iff.1 inT
  simp only [Prod.mk.injEq] at e
  exact ⟨i, h, e.1, e.2.1, e.2.2⟩
def tkC (t : Tk) : List Value := [.int .i64 t.k, .int .i64 (t.a : Int), .int .i64 t.i, .string (baL t.s)]
def toksC (L : List Tk) : List Value := L.flatMap tkC
theorem toks_snoc (L : List Tk) (t : Tk) : toksC L ++ tkC t = toksC (L ++ [t]) := by unfold toksC; rw [List.flatMap_append]; simp
theorem own_next {w w' : World} {B e size n : Nat} {v : Value} {xs : List Value} (h : w.ownsRow B e size v n xs) (hb : Below w.heap.size w w') : w'.ownsRow B e size v n xs := by
  refine ⟨h.1, h.2.elim Or.inl (fun ⟨g, cap, cur, hv, hg, hh, r⟩ => Or.inr ⟨g, cap, cur, hv, hg, ?_, r⟩)⟩
  have hlt : g < w.heap.size := by
    rcases Nat.lt_or_ge g w.heap.size with h1 | h1
    · exact h1
    · rw [Array.getElem?_eq_none h1] at hh; exact absurd hh (by simp)
  rw [hb.block g hlt]; exact hh
structure ScanR (w w' : World) (e : Ending) (r : Out) : Prop where
  bel : Below w.heap.size w w'
  res : (r.e = 0 ∧ ∃ v, e = .returned (.tuple #[v, .nilIface]) ∧ w'.ownsRow w.heap.size 208 4 v r.l.length (toksC r.l)) ∨
    (r.e ≠ 0 ∧ ∃ B, w.heap.size ≤ B ∧ e = .returned (.tuple #[.slice none 0 0, .iface 133 (.pointer (some ⟨B, 0, none⟩))]) ∧ FaultAt w' B r.a r.e)
theorem Q_bad' {l : List UInt8} {p : Nat} {c : UInt8} {m : Rd} (h : l[p]? = some c) (hs : stopL l p) (hm : oneL (l.drop p) = m) (he : m.e ≠ 0) (acc : List Tk) : scanQ l p acc = ⟨[], p, m.e⟩ := by
  obtain ⟨h1, h2⟩ := hs c h
  obtain ⟨hp, rfl⟩ := List.getElem?_eq_some_iff.1 h
  rw [← hm]
  exact Q_bad l p acc hp h1 h2 (by rw [hm]; exact he)
theorem Q_tok' {l : List UInt8} {p : Nat} {c : UInt8} {m : Rd} (h : l[p]? = some c) (hs : stopL l p) (hm : oneL (l.drop p) = m) (he : m.e = 0) (acc : List Tk) : scanQ l p acc = scanQ l (p + m.z) (acc ++ [⟨m.k, p, m.i, m.s⟩]) := by
  obtain ⟨h1, h2⟩ := hs c h
  obtain ⟨hp, rfl⟩ := List.getElem?_eq_some_iff.1 h
  exact Q_tok l p acc m hp h1 h2 hm he
theorem one_bd {l : List UInt8} {p : Nat} {m : Rd} (h : p < l.length) (hm : oneL (l.drop p) = m) (he : m.e = 0) : 1 ≤ m.z ∧ p + m.z ≤ l.length := by
  have := one_z (l.drop p) (by rw [hm]; exact he)
  rw [hm, List.length_drop] at this
  omega
set_option maxHeartbeats 4000000 in
set_option maxRecDepth 4000 in
theorem scan_any (ao : Option Addr) (n cap : Nat) (l : List UInt8) (w : World) (hl : l.length = n) (h : IsB w ao l) (hn : n ≤ 65536) (hc : n ≤ cap) (hm : MaxW w) :
    Calls Tryz.prog 75 #[.slice ao n cap] w fun e w' => ScanR w w' e (scanQ l 0 []) := by
  obtain ⟨i0, hi, hz0, hz1, hz2⟩ := inT'
  obtain ⟨R, HR⟩ : ∃ R, Hid (scanQ l 0 [] = R) := ⟨_, rfl⟩
  rw [HR.out]
  have HI : Hid (IsB w ao l) := h
  have HL : Hid (l.length = n) := hl
  have HMx : Hid (MaxW w) := hm
  have hni : ¬ (65536 : Int) < (n : Int) := by omega
  clear h hl hm
  go_enter Tryz.func75, Tryz.ntmps75
  go_wp2_with fail
  refine (skip_any ao n cap 0 l _ HL.out HI.out (by omega) hc (Nat.zero_le _) HMx.out).mono ?_
  rintro e w1 ⟨p0, rfl, _, hp0, hs0, ht0, hb1⟩
  have HS0 : Hid (scanQ l p0 [] = R) := by rw [Hid, ← hs0]; exact HR.out
  have HT0 : Hid (stopL l p0) := ht0
  have HB0 : Hid (Below w.heap.size w w1) := hb1
  obtain ⟨B, HB⟩ : ∃ B, Hid (w.heap.size = B) := ⟨_, rfl⟩
  clear hs0 ht0 hb1
  go_wp2
  go_loopw [4, 5] (fun v i wr => ∃ (p : Nat) (acc : List Tk), p ≤ n ∧ i = .int .i64 p ∧ Hid (scanQ l p acc = R) ∧ Hid (stopL l p) ∧ Hid (wr.ownsRow B 208 4 v acc.length (toksC acc)) ∧ Hid (Below w.heap.size w wr) ∧ Hid (acc.length ≤ p)) (fun _ i _ => n - (intOf i).toNat)
  case atStart => exact ⟨p0, [], hp0, rfl, HS0, HT0, World.ownsRow_nil _ _ _ _, HB0, Nat.zero_le _⟩
  case round =>
    obtain ⟨p, acc, hpn, rfl, HS, HT, HO, HW, HA⟩ := hrel
    by_cases hlt : p < n
    · have hli : (p : Int) < (n : Int) := by omega
      have hpl : p < l.length := by rw [HL.out]; exact hlt
      obtain ⟨b, o, rfl, hbs⟩ := HI.out (by omega)
      have HI2 : Hid (Bs w b o l) := hbs
      obtain ⟨c, HC⟩ : ∃ c, Hid (l[p]? = some c) := ⟨_, List.getElem?_eq_getElem hpl⟩
      have hsl : ∀ w, (Instr.slice 22 (.slice (some ⟨b, o, none⟩) n cap) (some (.int .i64 (p : Int))) none none).run Tryz.prog w = .ok (.slice (some ⟨b, o + p, none⟩) (n - p) (cap - p)) w := fun w => by
        rw [slice_from _ n cap p _ w rfl (by omega), from_at b o cap p (by omega)]
      obtain ⟨m, Hm⟩ : ∃ m, Hid (oneL (l.drop p) = m) := ⟨_, rfl⟩
      have HRd : Hid (Calls Tryz.prog 105 #[.slice (some ⟨b, o + p, none⟩) (n - p) (cap - p)] wr fun e w' => e = .returned (rdV m) ∧ Below wr.heap.size wr w') := by
        have h1 := (HI2.out.next HW.out).drop p
        have h2 : (l.drop p).length = n - p := by rw [List.length_drop, HL.out]
        rw [Hid, ← Hm.out]
        rw [drop_at HC.out] at h1 h2 ⊢
        exact read_one b (o + p) (n - p) (cap - p) c _ wr h2 h1 (by omega) (by omega)
      clear hbs
      by_cases he : m.e = 0
      · have hei : (m.e == 0) = true := by simpa using he
        obtain ⟨hz3, hz4⟩ := one_bd hpl Hm.out he
        have HS1 : Hid (scanQ l (p + m.z) (acc ++ [⟨m.k, p, m.i, m.s⟩]) = R) := by rw [Hid, ← Q_tok' HC.out HT.out Hm.out he]; exact HS.out
        rw [HL.out] at hz4
        clear he Hm HS HT
        obtain ⟨me, mk, mi, ms, mz⟩ := m
        simp only at hei HS1 hz3 hz4
        go_wp2_with fail
        refine HRd.out.mono ?_
        rintro e w2 ⟨rfl, hb2⟩
        have HB2 : Hid (Below w.heap.size w w2) := next_trans HW.out hb2
        have HO2 : Hid (w2.ownsRow B 208 4 u4 acc.length (toksC acc)) := own_next HO.out hb2
        clear hb2 HRd
        unfold rdV
        go_wp2_with (at_builtin; refine wpList_append_own _ rfl _ _ 161 rfl B 208 i0 (.agg #[.int .i64 (0), .int .i64 (0), .int .i64 (0), .string (⟨#[]⟩)]) 4 40 Tryz.underlying161 hi hz0 hz1 hz2 rfl (by decide) _ _ _ rfl ((HO2.out.alloc _).alloc _) ⟨w2.heap.size + 1, 0, none⟩ 1 1 [.int .i64 mk, .int .i64 (p : Int), .int .i64 mi, .string (baL ms)] rfl rfl ?c1 ?c2 ?c3 ?c4 ?c5 ?_)
        case c1 =>
          intro j u hj
          match j, hj with
          | 0, hj => simp at hj; subst hj; simp [Addr.add]
          | 1, hj => simp at hj; subst hj; simp [Addr.add]
          | 2, hj => simp at hj; subst hj; simp [Addr.add]
          | 3, hj => simp at hj; subst hj; simp [Addr.add]
        case c2 => intro u hu; simp at hu; rcases hu with rfl | rfl | rfl | rfl <;> rfl
        case c3 => have := HA.out; unfold maxLen; omega
        case c4 => have := HA.out; omega
        case c5 => have := HB2.out.size; have := HB.out; simp; omega
        intro s2 w3 ho hg _
        have HO3 : Hid (w3.ownsRow B 208 4 s2 (acc ++ [(⟨mk, p, mi, ms⟩ : Tk)]).length (toksC (acc ++ [(⟨mk, p, mi, ms⟩ : Tk)]))) := by
          rw [← toks_snoc, Hid, List.length_append]; exact ho
        have HB3 : Hid (Below w.heap.size w w3) := by
          have hs := HB2.out.size
          refine HB2.out.trans ((((Below.refl _ w2).alloc hs _).alloc (by simp; omega) _).grown hg (by simp; omega) (fun k hk => ?_))
          have := (HO2.out.lt k hk).1
          rw [HB.out]; exact this
        have HA3 : Hid ((acc ++ [(⟨mk, p, mi, ms⟩ : Tk)]).length ≤ p + mz) := by have := HA.out; rw [Hid, List.length_append, List.length_singleton]; omega
        have HSk : Hid (∀ w' : World, Below w.heap.size w w' → Calls Tryz.prog 104 #[.slice (some ⟨b, o, none⟩) n cap, .int .i64 ((p : Int) + (mz : Int))] w' fun e w4 => ∃ q : Nat, e = .returned (.int .i64 (q : Int)) ∧ p + mz ≤ q ∧ q ≤ n ∧ (∀ acc, scanQ l (p + mz) acc = scanQ l q acc) ∧ stopL l q ∧ Below w'.heap.size w' w4) := by
          intro w' hb
          have := skip_any (some ⟨b, o, none⟩) n cap (p + mz) l w' HL.out (HI.out.next hb) (by omega) hc hz4 (HMx.out.next hb)
          rw [Int.natCast_add] at this
          exact this
        clear ho hg
        go_wp2_with fail
        refine (HSk.out _ HB3.out).mono ?_
        rintro e w4 ⟨q, rfl, hq1, hq2, hq3, hq4, hb4⟩
        have HS4 : Hid (scanQ l q (acc ++ [(⟨mk, p, mi, ms⟩ : Tk)]) = R) := by rw [Hid, ← hq3]; exact HS1.out
        have HT4 : Hid (stopL l q) := hq4
        have HO4 : Hid (w4.ownsRow B 208 4 s2 (acc ++ [(⟨mk, p, mi, ms⟩ : Tk)]).length (toksC (acc ++ [(⟨mk, p, mi, ms⟩ : Tk)]))) := own_next HO3.out hb4
        have HB4 : Hid (Below w.heap.size w w4) := next_trans HB3.out hb4
        have HA4 : Hid ((acc ++ [(⟨mk, p, mi, ms⟩ : Tk)]).length ≤ q) := Nat.le_trans HA3.out hq1
        clear hq3 hq4 hb4 HSk
        go_wp2
        go_round
        case rel => exact ⟨q, acc ++ [⟨mk, p, mi, ms⟩], hq2, rfl, HS4, HT4, HO4, HB4, HA4⟩
        case measure => simp [intOf]; omega
      · have hei : (m.e == 0) = false := by simpa using he
        have HE : Hid (R = ⟨[], p, m.e⟩) := by rw [Hid, ← HS.out]; exact Q_bad' HC.out HT.out Hm.out he acc
        have HN : Hid (m.e ≠ 0) := he
        clear he Hm HS HT
        obtain ⟨me, mk, mi, ms, mz⟩ := m
        simp only at hei HE HN
        go_wp2_with fail
        refine HRd.out.mono ?_
        rintro e w2 ⟨rfl, hb2⟩
        have HB2 : Hid (Below w.heap.size w w2) := next_trans HW.out hb2
        clear hb2 HRd
        unfold rdV
        go_wp2_with fail
        refine (fault_any _ _ _).mono ?_
        rintro e w3 ⟨rfl, hf, hb3⟩
        have HF : Hid (FaultAt w3 (w2.heap.size + 1) p me) := by rw [Hid]; simpa using hf
        have HB3 : Hid (Below w.heap.size w w3) := next_trans (next_trans HB2.out (alloc_below _ _)) hb3
        clear hf hb3
        go_wp2
        go_ret2
        rw [HE.out]
        refine ⟨HB3.out, .inr ⟨HN.out, w2.heap.size + 1, ?_, ?_, HF.out⟩⟩
        · have := HB2.out.size; omega
        · simp
    · have hli : ¬ (p : Int) < (n : Int) := by omega
      have HE : Hid (R = ⟨acc, 0, 0⟩) := by rw [Hid, ← HS.out]; exact Q_end l p acc (by rw [HL.out]; omega)
      go_wp2
      go_ret2
      rw [HE.out]
      exact ⟨HW.out, .inl ⟨rfl, _, rfl, by rw [HB.out]; exact HO.out⟩⟩
end Go.Proofs.YtnhbjhdkpbhioaaGreatDoor
