/- The contract of package lex's readString. -/
import Derived.Test.YtlnkeebfaninfaaGreatDoorLexRead
import Derived.Test.YtlnkeebfaninfaaGreatDoorBuild
import Derived.Laws.IdiomStrings
import Derived.Laws.OwnMore
import Derived.Lib.BufferKept
import Derived.Lib.AppendStr
import Derived.OwnWalk
namespace Go.Proofs.YtlnkeebfaninfaaGreatDoor
open Go.RowKit

theorem row_snoc (acc : List UInt8) (c : UInt8) : Lib.byteCells acc ++ [.int .u8 (c.toNat : Int)] = Lib.byteCells (acc ++ [c]) := by unfold Lib.byteCells; simp
theorem row_get (acc : List UInt8) (i : Nat) (h : i < acc.length) : (Lib.byteCells acc)[i]? = some (.int .u8 (acc[i].toNat : Int)) := by
  unfold Lib.byteCells; rw [List.getElem?_map, List.getElem?_eq_getElem h]; rfl
theorem own_isB {w : World} {B : Nat} {v : Value} {acc : List UInt8} (h : w.ownsRow B 5 1 v acc.length (Lib.byteCells acc)) : ∃ ao cap, v = .slice ao acc.length cap ∧ IsB w ao acc := by
  rcases h.2 with ⟨rfl, h0⟩ | ⟨g, cap, cur, rfl, _, _, _, _, _, _⟩
  · refine ⟨none, 0, by rw [h0], ?_⟩
    have e : acc = [] := List.eq_nil_of_length_eq_zero h0
    subst e; exact IsB.nil _ _
  · refine ⟨_, cap, rfl, fun _ => ⟨g, 0, rfl, fun i hi => ?_⟩⟩
    rw [Nat.zero_add, h.cellAt i (by omega)]
    exact row_get acc i hi
theorem conv_own {w : World} {B : Nat} {v : Value} {acc : List UInt8} (h : w.ownsRow B 5 1 v acc.length (Lib.byteCells acc)) :
    (convert 22 9 v).run Tryz.prog w = .ok (.string (baL acc)) w := by
  obtain ⟨ao, cap, rfl, hi⟩ := own_isB h
  exact conv_isB ao _ cap acc w rfl hi
theorem drop_at {l : List UInt8} {k : Nat} {c : UInt8} (h : l[k]? = some c) : l.drop k = c :: l.drop (k + 1) := by
  obtain ⟨hk, rfl⟩ := List.getElem?_eq_some_iff.1 h
  exact Q_cons l k hk
theorem str_end_at {l : List UInt8} {k : Nat} {c : UInt8} (acc : List UInt8) (h : l[k]? = some c) (hc : c.toNat = 34) : strA (l.drop k) acc k = endR acc k := by rw [drop_at h, strA_end _ _ _ _ hc]
theorem str_one_at {l : List UInt8} {k : Nat} {c : UInt8} (acc : List UInt8) (h : l[k]? = some c) (h1 : c.toNat ≠ 34) (h2 : c.toNat ≠ 92) : strA (l.drop k) acc k = strA (l.drop (k + 1)) (acc ++ [c]) (k + 1) := by
  rw [drop_at h, strA_one _ _ _ _ h1 h2]
theorem str_esc_at {l : List UInt8} {k : Nat} {c d : UInt8} (acc : List UInt8) (h : l[k]? = some c) (hd : l[k + 1]? = some d) (hc : c.toNat = 92) : strA (l.drop k) acc k = strA (l.drop (k + 2)) (acc ++ [d]) (k + 2) := by
  rw [drop_at h, drop_at hd, strA_esc _ _ _ _ _ hc]
theorem str_esc0_at {l : List UInt8} {k : Nat} {c : UInt8} (acc : List UInt8) (h : l[k]? = some c) (hl : k + 1 = l.length) (hc : c.toNat = 92) : strA (l.drop k) acc k = badR 3 := by
  rw [drop_at h, List.drop_eq_nil_of_le (by omega), strA_esc0 _ _ _ hc]
theorem Bs.get {w : World} {b o : Nat} {l : List UInt8} (h : Bs w b o l) {k : Nat} {c : UInt8} (hc : l[k]? = some c) : w.cell? ⟨b, o + k, none⟩ = some (.int .u8 (c.toNat : Int)) := by
  obtain ⟨hk, rfl⟩ := List.getElem?_eq_some_iff.1 hc
  exact h k hk
theorem str_nil_at (l : List UInt8) (k : Nat) (acc : List UInt8) (h : l.length ≤ k) : strA (l.drop k) acc k = badR 3 := by
  rw [List.drop_eq_nil_of_le h, strA_nil]
theorem keep_at {W w1 : World} {B b : Nat} (h : Below B W w1) (hb : b < B) : (∀ o, w1.cell? ⟨b, o, none⟩ = W.cell? ⟨b, o, none⟩) ∧ (∀ o, w1.frozen? ⟨b, o, none⟩ = W.frozen? ⟨b, o, none⟩) :=
  ⟨fun o => h.cell (p := ⟨b, o, none⟩) hb, fun o => h.frozen (p := ⟨b, o, none⟩) hb⟩

set_option maxHeartbeats 4000000 in
set_option maxRecDepth 4000 in
theorem read_str (b o n cap : Nat) (l : List UInt8) (w : World) (hl : l.length = n) (h : Bs w b o l) (hn : n ≤ 100000) (h1 : 1 ≤ n) :
    Calls Tryz.prog 27 #[.slice (some ⟨b, o, none⟩) n cap] w fun e w' => e = .returned (rdV (strA (l.drop 1) [] 1)) ∧ Below w.heap.size w w' := by
  obtain ⟨i0, hi, hz0, hz1, hz2⟩ := inU'
  obtain ⟨B, HB⟩ : ∃ B, Hid (B = w.heap.size + 1) := ⟨_, rfl⟩
  obtain ⟨R, HR⟩ : ∃ R, Hid (strA (l.drop 1) [] 1 = R) := ⟨_, rfl⟩
  rw [HR.out]
  have HI : Hid (Bs w b o l) := h
  have HL : Hid (l.length = n) := hl
  clear h hl
  go_enter Tryz.func27, Tryz.ntmps27
  go_wp2
  obtain ⟨W, HW0, HBW, hw0, hw1, hw2, hw3, hf⟩ : ∃ W, Hid (w.alloc (.cells #[.int .i64 0, .int .i64 0, .int .i64 0, .string ⟨#[]⟩] 40) = W) ∧ Hid (W.heap.size = B) ∧ W.cell? ⟨w.heap.size, 0, none⟩ = some (.int .i64 0) ∧ W.cell? ⟨w.heap.size, 1, none⟩ = some (.int .i64 0) ∧ W.cell? ⟨w.heap.size, 2, none⟩ = some (.int .i64 0) ∧ W.cell? ⟨w.heap.size, 3, none⟩ = some (.string ⟨#[]⟩) ∧ ∀ q, W.frozen? ⟨w.heap.size, q, none⟩ = false :=
    ⟨_, rfl, by rw [Hid, HB.out]; simp, by simp, by simp, by simp, by simp, by intro q; simp⟩
  rw [HW0.out]
  go_loopw [5, 6] (fun v i wr => ∃ (k : Nat) (acc : List UInt8), 1 ≤ k ∧ k ≤ n ∧ i = .int .i64 k ∧ Hid (strA (l.drop k) acc k = R) ∧ Hid (wr.ownsRow B 5 1 v acc.length (Lib.byteCells acc)) ∧ Hid (Below B W wr) ∧ Hid (acc.length ≤ k)) (fun _ i _ => n - (intOf i).toNat)
  case atStart => exact ⟨1, [], Nat.le_refl _, h1, rfl, HR, World.ownsRow_nil _ _ _ _, Below.refl _ _, Nat.zero_le _⟩
  case round =>
    obtain ⟨k, acc, hk1, hk, rfl, HS, HO, HW, HA⟩ := hrel
    have HWw : Hid (Below w.heap.size w wr) := by
      have e := HBW.out
      have e2 := HW0.out
      have e3 : Below w.heap.size w W := by rw [← e2]; exact alloc_below _ _
      exact below_next e3 (by rw [e]; exact HW.out) e3.size
    obtain ⟨hcc, hff⟩ := keep_at (b := w.heap.size) HW.out (by have := HB.out; omega)
    have HZ : Hid (B ≤ wr.heap.size) := by have := HW.out.size; have := HBW.out; rw [Hid]; omega
    by_cases hlt : k < n
    · have hli : (k : Int) < (n : Int) := by omega
      have hkl : k < l.length := by rw [HL.out]; exact hlt
      obtain ⟨c, HC⟩ : ∃ c, Hid (l[k]? = some c) := ⟨_, List.getElem?_eq_getElem hkl⟩
      have c0 := (HI.out.next HWw.out).get HC.out
      by_cases c34 : c.toNat = 34
      · have d1 : ((c.toNat : Int) == 34) = true := by simp; omega
        have HM : Hid (endR acc k = R) := by rw [Hid, ← str_end_at acc HC.out c34]; exact HS.out
        have hcv := conv_own HO.out
        have HE : Hid (∀ w' : World, Calls Tryz.prog 42 #[.string (baL acc), .int .i64 ((k : Int) + 1)] w' fun e w2 => e = .returned (rdV R) ∧ Below w'.heap.size w' w2) := by
          intro w'; rw [← HM.out]; exact end_str acc k w' (by have := HA.out; omega)
        clear HS c34
        go_wp2_with fail
        refine (HE.out _).mono ?_
        rintro e w1 ⟨rfl, hb1⟩
        have HB1 : Hid (Below w.heap.size w w1) := next_trans HWw.out hb1
        obtain ⟨hcc2, hff2⟩ := keep_at (b := w.heap.size) hb1 (by have := HZ.out; have := HB.out; omega)
        clear hb1
        unfold rdV
        go_wp2
        exact bodyPost_ret (v := rdV R) (by simp [results, Tryz.results27, go_sem, hcc, hcc2, hw0, hw1, hw2, hw3, rdV]) rfl ⟨rfl, below4 HB1.out _ (Nat.le_refl _) _ _ _ _⟩
      · have d1 : ((c.toNat : Int) == 34) = false := by simp; omega
        by_cases c92 : c.toNat = 92
        · have d2 : ((c.toNat : Int) == 92) = true := by simp; omega
          by_cases hz : k + 1 = n
          · have hzi : ((k : Int) + 1 == (n : Int)) = true := by simp; omega
            have HM : Hid (badR 3 = R) := by rw [Hid, ← str_esc0_at acc HC.out (by rw [HL.out]; exact hz) c92]; exact HS.out
            clear HS c34 c92
            go_wp2
            rw [← HM.out]
            exact bodyPost_ret (v := rdV (badR 3)) (by simp [results, Tryz.results27, go_sem, hcc, hw0, hw1, hw2, hw3, rdV, badR, baL]) rfl ⟨rfl, below4 HWw.out _ (Nat.le_refl _) _ _ _ _⟩
          · have hzi : ((k : Int) + 1 == (n : Int)) = false := by simp; omega
            have hzl : (k : Int) + 1 < (n : Int) := by omega
            have hkl2 : k + 1 < l.length := by rw [HL.out]; omega
            obtain ⟨d, HD⟩ : ∃ d, Hid (l[k + 1]? = some d) := ⟨_, List.getElem?_eq_getElem hkl2⟩
            have HS2 : Hid (strA (l.drop (k + 2)) (acc ++ [d]) (k + 2) = R) := by rw [Hid, ← str_esc_at acc HC.out HD.out c92]; exact HS.out
            have c1 := (HI.out.next HWw.out).get HD.out
            clear HS c34 c92
            go_wp2_with (at_builtin; refine wpList_append_own _ rfl _ _ 22 rfl B 5 i0 (.int .u8 0) 1 1 Tryz.underlying22 hi hz0 hz1 hz2 rfl (by decide) _ _ _ rfl (HO.out.alloc _) ⟨wr.heap.size, 0, none⟩ 1 1 [.int .u8 (d.toNat : Int)] rfl rfl ?c1 ?c2 ?c3 ?c4 ?c5 ?_)
            case c1 =>
              intro j u hj
              match j, hj with
              | 0, hj => simp at hj; subst hj; simp [Addr.add]
            case c2 => intro u hu; simp at hu; subst hu; rfl
            case c3 => have := HA.out; unfold maxLen; omega
            case c4 => have := HA.out; omega
            case c5 => have := HZ.out; simp; omega
            intro s2 w2 ho hg _
            have HO2 : Hid (w2.ownsRow B 5 1 s2 (acc ++ [d]).length (Lib.byteCells (acc ++ [d]))) := by
              rw [row_snoc] at ho
              rw [Hid, List.length_append]; exact ho
            have HW2 : Hid (Below B W w2) := HW.out.trans (((Below.refl B wr).alloc HZ.out _).grown hg (by have := HZ.out; simp; omega) (fun k hk => (HO.out.lt k hk).1))
            have HA2 : Hid ((acc ++ [d]).length ≤ k + 2) := by have := HA.out; rw [Hid, List.length_append, List.length_singleton]; omega
            clear ho hg
            go_wp2
            go_round
            case rel => exact ⟨k + 2, acc ++ [d], by omega, by omega, by go_num, HS2, HO2, HW2, HA2⟩
            case measure => simp [intOf]; omega
        · have d2 : ((c.toNat : Int) == 92) = false := by simp; omega
          have HS2 : Hid (strA (l.drop (k + 1)) (acc ++ [c]) (k + 1) = R) := by rw [Hid, ← str_one_at acc HC.out c34 c92]; exact HS.out
          clear HS c34 c92
          go_wp2_with (at_builtin; refine wpList_append_own _ rfl _ _ 22 rfl B 5 i0 (.int .u8 0) 1 1 Tryz.underlying22 hi hz0 hz1 hz2 rfl (by decide) _ _ _ rfl (HO.out.alloc _) ⟨wr.heap.size, 0, none⟩ 1 1 [.int .u8 (c.toNat : Int)] rfl rfl ?c1 ?c2 ?c3 ?c4 ?c5 ?_)
          case c1 =>
            intro j u hj
            match j, hj with
            | 0, hj => simp at hj; subst hj; simp [Addr.add]
          case c2 => intro u hu; simp at hu; subst hu; rfl
          case c3 => have := HA.out; unfold maxLen; omega
          case c4 => have := HA.out; omega
          case c5 => have := HZ.out; simp; omega
          intro s2 w2 ho hg _
          have HO2 : Hid (w2.ownsRow B 5 1 s2 (acc ++ [c]).length (Lib.byteCells (acc ++ [c]))) := by
            rw [row_snoc] at ho
            rw [Hid, List.length_append]; exact ho
          have HW2 : Hid (Below B W w2) := HW.out.trans (((Below.refl B wr).alloc HZ.out _).grown hg (by have := HZ.out; simp; omega) (fun k hk => (HO.out.lt k hk).1))
          have HA2 : Hid ((acc ++ [c]).length ≤ k + 1) := by have := HA.out; rw [Hid, List.length_append, List.length_singleton]; omega
          clear ho hg
          go_wp2
          go_round
          case rel => exact ⟨k + 1, acc ++ [c], by omega, by omega, by go_num, HS2, HO2, HW2, HA2⟩
          case measure => simp [intOf]; omega
    · have hli : ¬ (k : Int) < (n : Int) := by omega
      have HM : Hid (badR 3 = R) := by rw [Hid, ← str_nil_at l k acc (by rw [HL.out]; omega)]; exact HS.out
      go_wp2
      rw [← HM.out]
      exact bodyPost_ret (v := rdV (badR 3)) (by simp [results, Tryz.results27, go_sem, hcc, hw0, hw1, hw2, hw3, rdV, badR, baL]) rfl ⟨rfl, below4 HWw.out _ (Nat.le_refl _) _ _ _ _⟩
end Go.Proofs.YtlnkeebfaninfaaGreatDoor
