/- The contracts of the binary search and of place. -/
import Derived.Test.YtgjnnahflaaagaaDoorWmFindAt
namespace Go.Proofs.YtgjnnahflaaagaaDoor
open Go.RowKit Go.Maps

theorem cmp_neg {x y : Int} (h : x < y) : decide (Lib.compareInt x y < 0) = true := by
  unfold Lib.compareInt; rw [if_pos h]; rfl
theorem cmp_nneg {x y : Int} (h : ¬ x < y) : decide (Lib.compareInt x y < 0) = false := by
  unfold Lib.compareInt; rw [if_neg h]; split <;> rfl
theorem cmp_eq (x y : Int) : (Lib.compareInt x y == 0) = decide (x = y) := by
  unfold Lib.compareInt
  split
  · rw [decide_eq_false (by omega)]; rfl
  · split
    · rw [decide_eq_false (by omega)]; rfl
    · rw [decide_eq_true (by omega)]; rfl
theorem Good.mono_id {F : List Ft} {last : Nat} (h : Good F last) {i j : Nat} {f g : Ft} (hf : F[i]? = some f) (hg : F[j]? = some g) (hij : i ≤ j) : f.id ≤ g.id := by
  rcases Nat.lt_or_ge i j with c | c
  · exact Nat.le_of_lt (h.lt hf hg c)
  · obtain rfl : i = j := by omega
    rw [hf] at hg
    rw [Option.some.inj hg]
    exact Nat.le_refl _

set_option maxHeartbeats 4000000 in
set_option maxRecDepth 4000 in
theorem search_any (w : World) (B last N cap : Nat) (ao : Option Addr) (F : List Ft) (R : Rw 44 w B (.slice ao N cap) F) (hg : Good F last) (hn : F.length ≤ 5000) (x : Int) :
    Calls Tryd.prog 35 #[.slice ao N cap, .int .i64 x, .func (.func 36) #[] #[]] w fun e w' => ∃ i : Nat, e = .returned (.tuple #[.int .i64 i, .bool (hitB F x i)]) ∧ LowAt F x i ∧ Below w.heap.size w w' := by
  have hN := R.len
  rw [← hN] at hn
  have HN : Hid (N = F.length) := hN
  have HR : Hid (∀ w', Below w.heap.size w w' → Rw 44 w' B (.slice ao N cap) F) := fun w' hb => R.next hb
  have HG : Hid (Good F last) := hg
  clear R hg hN
  go_enter Tryd.func35, Tryd.ntmps35
  go_wp2
  go_loopw [9, 10] (fun i j wr => ∃ lo hi : Nat, i = .int .i64 lo ∧ j = .int .i64 hi ∧ lo ≤ hi ∧ hi ≤ N ∧ Hid (Below w.heap.size w wr) ∧ Hid ((∀ j f, j < lo → F[j]? = some f → (f.id : Int) < x) ∧ (∀ j f, hi ≤ j → F[j]? = some f → x ≤ (f.id : Int)))) (fun i j _ => (intOf j).toNat - (intOf i).toNat)
  case atStart =>
    refine ⟨0, N, rfl, rfl, Nat.zero_le _, Nat.le_refl _, Below.refl _ _, fun j f h => by omega, fun j f h hf => ?_⟩
    have := (List.getElem?_eq_some_iff.1 hf).1
    have := HN.out
    omega
  case round =>
    obtain ⟨lo, hi, rfl, rfl, hlh, hhn, HW, HI⟩ := hrel
    by_cases hlt : lo < hi
    · have i1 : (lo : Int) < (hi : Int) := by omega
      obtain ⟨k, hk⟩ : ∃ k, (lo + hi) / 2 = k := ⟨_, rfl⟩
      have hki : ((lo : Int) + (hi : Int)) / 2 = (k : Int) := by omega
      have hkb : lo ≤ k ∧ k < hi := by omega
      have k1 : (k : Int) < (N : Int) := by omega
      have k0 : (0 : Int) ≤ (k : Int) := by omega
      clear hk
      obtain ⟨f, HF⟩ : ∃ f, Hid (F[k]? = some f) := ⟨_, List.getElem?_eq_getElem (by rw [← HN.out]; omega)⟩
      obtain ⟨g, rfl, c0, c1, c2⟩ := (HR.out wr HW.out).at HF.out
      obtain ⟨C, HC⟩ : ∃ C, Hid (Lib.compareInt (f.id : Int) x = C) := ⟨_, rfl⟩
      have HK : Hid (∀ w, Calls Tryd.prog 36 #[.agg #[.int .i64 f.id, .string f.t, .slice f.a f.l.length f.c], .int .i64 x] w fun e w' => e = .returned (.int .i64 C) ∧ Below w.heap.size w w') := by
        intro w; rw [← HC.out]; exact cmpfn_any _ _ _ _ _
      obtain ⟨sv, HS⟩ : ∃ sv, Hid (Value.slice f.a f.l.length f.c = sv) := ⟨_, rfl⟩
      rw [HS.out] at c2 HK
      by_cases hc : (f.id : Int) < x
      · have d : decide (C < 0) = true := by rw [← HC.out]; exact cmp_neg hc
        have HI2 : Hid ((∀ j f, j < k + 1 → F[j]? = some f → (f.id : Int) < x) ∧ (∀ j f, hi ≤ j → F[j]? = some f → x ≤ (f.id : Int))) := by
          refine ⟨fun j f' hj hf => ?_, HI.out.2⟩
          have := HG.out.mono_id hf HF.out (by omega)
          omega
        clear HI hc
        go_wp2_with (go_at_call 36; refine (HK.out _).mono ?_; rintro e w1 ⟨rfl, hb⟩)
        go_roundw
        case rel => exact ⟨k + 1, hi, by go_num, rfl, by omega, hhn, next_trans HW.out hb, HI2⟩
        case measure => simp [intOf]; omega
      · have d : decide (C < 0) = false := by rw [← HC.out]; exact cmp_nneg hc
        have HI2 : Hid ((∀ j f, j < lo → F[j]? = some f → (f.id : Int) < x) ∧ (∀ j f, k ≤ j → F[j]? = some f → x ≤ (f.id : Int))) := by
          refine ⟨HI.out.1, fun j f' hj hf => ?_⟩
          have := HG.out.mono_id HF.out hf hj
          omega
        clear HI hc
        go_wp2_with (go_at_call 36; refine (HK.out _).mono ?_; rintro e w1 ⟨rfl, hb⟩)
        go_roundw
        case rel => exact ⟨lo, k, rfl, rfl, by omega, by omega, next_trans HW.out hb, HI2⟩
        case measure => simp [intOf]; omega
    · have i1 : ¬ (lo : Int) < (hi : Int) := by omega
      obtain rfl : hi = lo := by omega
      by_cases hh : hi < N
      · have d0 : decide ((hi : Int) < (N : Int)) = true := decide_eq_true (by omega)
        have k1 : (hi : Int) < (N : Int) := by omega
        have k0 : (0 : Int) ≤ (hi : Int) := by omega
        obtain ⟨f, HF⟩ : ∃ f, Hid (F[hi]? = some f) := ⟨_, List.getElem?_eq_getElem (by rw [← HN.out]; omega)⟩
        obtain ⟨g, rfl, c0, c1, c2⟩ := (HR.out wr HW.out).at HF.out
        obtain ⟨C, HC⟩ : ∃ C, Hid (Lib.compareInt (f.id : Int) x = C) := ⟨_, rfl⟩
        have HK : Hid (∀ w, Calls Tryd.prog 36 #[.agg #[.int .i64 f.id, .string f.t, .slice f.a f.l.length f.c], .int .i64 x] w fun e w' => e = .returned (.int .i64 C) ∧ Below w.heap.size w w') := by
          intro w; rw [← HC.out]; exact cmpfn_any _ _ _ _ _
        obtain ⟨sv, HS⟩ : ∃ sv, Hid (Value.slice f.a f.l.length f.c = sv) := ⟨_, rfl⟩
        rw [HS.out] at c2 HK
        obtain ⟨Q, HQ⟩ : ∃ Q, Hid (hitB F x hi = Q) := ⟨_, rfl⟩
        have dq : (C == 0) = Q := by rw [← HC.out, ← HQ.out, hit_at HF.out]; exact cmp_eq _ _
        go_wp2_with (go_at_call 36; refine (HK.out _).mono ?_; rintro e w1 ⟨rfl, hb⟩)
        go_ret2
        exact ⟨hi, by rw [HQ.out]; rfl, ⟨HI.out.1, HI.out.2, by rw [← HN.out]; exact hhn⟩, next_trans HW.out hb⟩
      · have d0 : decide ((hi : Int) < (N : Int)) = false := decide_eq_false (by omega)
        have HQ : Hid (hitB F x hi = false) := hit_past (by rw [← HN.out]; omega)
        go_wp2_with fail
        go_ret2
        exact ⟨hi, by rw [HQ.out]; rfl, ⟨HI.out.1, HI.out.2, by rw [← HN.out]; exact hhn⟩, HW.out⟩

set_option maxHeartbeats 1000000 in
theorem place_any (w : World) (B b last : Nat) (v m : Value) (F : List Ft) (M : Mem w B b v m last F) (hn : F.length ≤ 5000) (x : Int) :
    Calls Tryd.prog 28 #[.pointer (some ⟨b, 0, none⟩), .int .i64 x] w fun e w' => ∃ i : Nat, e = .returned (.tuple #[.int .i64 i, .bool (hitB F x i)]) ∧ LowAt F x i ∧ Below w.heap.size w w' := by
  have c0 : w.cell? ⟨b, 0, none⟩ = some v := M.box.cell 0
  obtain ⟨ao, cap, rfl, _, _⟩ := M.rw.slice
  have HS : Hid (Calls Tryd.prog 35 #[.slice ao F.length cap, .int .i64 x, .func (.func 36) #[] #[]] w fun e w' => ∃ i : Nat, e = .returned (.tuple #[.int .i64 i, .bool (hitB F x i)]) ∧ LowAt F x i ∧ Below w.heap.size w w') := search_any w B last _ cap ao F M.rw M.good hn x
  clear M
  go_enter Tryd.func28, Tryd.ntmps28
  go_wp2_with fail
  refine HS.out.mono ?_
  rintro e w1 ⟨i, rfl, hl, hb⟩
  obtain ⟨Q, HQ⟩ : ∃ Q, Hid (hitB F x i = Q) := ⟨_, rfl⟩
  rw [HQ.out]
  have HL : Hid (LowAt F x i) := hl
  clear hl HS
  go_wp2
  go_ret2
  exact ⟨i, by rw [HQ.out]; rfl, HL.out, hb⟩
end Go.Proofs.YtgjnnahflaaagaaDoor
