/- Contracts over rows of numbers: sums from the left on, the least, the greatest, comparisons of neighbours. -/
import Derived.Test.YtfglmfldpmpofaaDoorBtName
import Derived.Test.YtfglmfldpmpofaaDoorNumWords
import Derived.Deep.QuietTactic
import Derived.BigQuiet
namespace Go.Proofs.YtfglmfldpmpofaaDoor
open Go.RowKit

/-- Numbers lie behind an address. -/
def IntsW (w : World) (ao : Option Addr) (ns : List Int) : Prop :=
  ∀ (j : Nat) (z : Int), ns[j]? = some z → ∃ b o, ao = some ⟨b, o, none⟩ ∧ w.cell? ⟨b, o + j, none⟩ = some (.int .i64 z)
theorem IntsW.next {w w' : World} {ao : Option Addr} {ns : List Int} (h : IntsW w ao ns) (hb : Below w.heap.size w w') : IntsW w' ao ns := by
  intro j z hj
  obtain ⟨b, o, h0, h1⟩ := h j z hj
  exact ⟨b, o, h0, keep_cell hb h1⟩
theorem IntsW.same {w w' : World} {ao : Option Addr} {ns : List Int} (h : IntsW w ao ns) (hb : SameW w w') : IntsW w' ao ns := h.next (hb.below _)
theorem SameW.drewN {w w' : World} (h : SameW w w') (n : Nat) : SameW w (w'.drewN n) := by obtain ⟨a, rfl⟩ := h; exact ⟨a + n, World.drewN_drewN ..⟩
theorem drop_at {ns : List Int} {k : Nat} {z : Int} (h : ns[k]? = some z) : ns.drop k = z :: ns.drop (k + 1) := by
  obtain ⟨h1, e1⟩ := List.getElem?_eq_some_iff.1 h
  rw [List.drop_eq_getElem_cons h1, e1]
theorem ret_ie {a b c d : Int} (h : (a, c) = (b, d)) : Ending.returned (.tuple #[.int .i64 a, .int .i64 c]) = .returned (.tuple #[.int .i64 b, .int .i64 d]) := by
  obtain ⟨rfl, rfl⟩ := Prod.mk.inj h; rfl
theorem ret_i {a b : Int} (h : a = b) : Ending.returned (.int .i64 a) = .returned (.int .i64 b) := by rw [h]
theorem in_get {ns : List Int} (hl : ∀ x ∈ ns, inB x = true) {k : Nat} {z : Int} (h : ns[k]? = some z) : inB z = true := hl z (List.mem_of_getElem? h)

theorem op_1 (a b v e0 : Int) (w : World) (ha : inB a = true) (hb : inB b = true) (h : twoF 1 a b = (v, e0)) :
    Calls Tryd.prog 65 #[.int .i64 a, .int .i64 b] w fun e w' => e = .returned (.tuple #[.int .i64 v, .int .i64 e0]) ∧ w' = w := by
  have h' : (resV (a + b), resE (a + b)) = (v, e0) := h
  obtain ⟨rfl, rfl⟩ := Prod.mk.inj h'
  exact add_any a b w ha hb
set_option maxHeartbeats 1000000 in
set_option maxRecDepth 4000 in
theorem fold_1 (n v e0 : Int) (ao : Option Addr) (cap N : Nat) (ns : List Int) (w : World) (hN : ns.length = N) (hv : IntsW w ao ns) (hn : inB n = true) (hl : ∀ x ∈ ns, inB x = true) (hm : N ≤ 1000) (hr : foldE (twoF 1) n ns = (v, e0)) :
    Calls Tryd.prog 64 #[.func (.func 65) #[] #[], .int .i64 n, .slice ao N cap] w fun e w' => e = .returned (.tuple #[.int .i64 v, .int .i64 e0]) ∧ w' = w := by
  have HV : Hid (IntsW w ao ns) := hv
  have HL : Hid (∀ x ∈ ns, inB x = true) := hl
  have HN : Hid (ns.length = N) := hN
  have HR : Hid (foldE (twoF 1) n ns = (v, e0)) := hr
  have HI : Hid (inB n = true) := hn
  clear hv hl hN hr hn
  go_enter Tryd.func64, Tryd.ntmps64
  go_wp2
  go_loop [8, 15] (fun x i => ∃ (k : Nat) (m : Int), k ≤ N ∧ i = .int .i64 k ∧ x = .int .i64 m ∧ Hid (inB m = true) ∧ Hid (foldE (twoF 1) m (ns.drop k) = (v, e0))) (fun _ i => N - (intOf i).toNat)
  case atStart => exact ⟨0, n, Nat.zero_le _, rfl, rfl, HI, HR⟩
  case round =>
    obtain ⟨k, m, hk, rfl, rfl, HM, HF⟩ := hrel
    by_cases hlt : k < N
    · have hki : (k : Int) < (N : Int) := by omega
      obtain ⟨z, HZ⟩ : ∃ z, Hid (ns[k]? = some z) := ⟨_, List.getElem?_eq_getElem (by rw [HN.out]; exact hlt)⟩
      obtain ⟨b, o, rfl, hc⟩ := HV.out k z HZ.out
      have Hz : Hid (inB z = true) := in_get HL.out HZ.out
      have HD := HF.out
      rw [drop_at HZ.out] at HD
      obtain ⟨V, E, HE⟩ : ∃ V E, Hid (twoF 1 m z = (V, E)) := ⟨_, _, rfl⟩
      have HVi : Hid (inB V = true) := by have := twoF_in 1 m z HM.out Hz.out; rw [HE.out] at this; exact this
      by_cases h0 : E = 0
      · subst h0
        have HD2 : Hid (foldE (twoF 1) V (ns.drop (k + 1)) = (v, e0)) := by rw [foldE_go HE.out] at HD; exact HD
        clear HD
        go_wp2_with (go_at_call 65; refine (op_1 m z V 0 _ HM.out Hz.out HE.out).mono ?_; rintro e w1 ⟨rfl, rfl⟩)
        go_round
        case rel => exact ⟨k + 1, V, by omega, by go_num, rfl, HVi, HD2⟩
        case measure => simp [intOf]; omega
      · have d0 : (E != 0) = true := by simpa using h0
        have HD2 : Hid ((0, E) = (v, e0)) := by rw [foldE_no HE.out h0] at HD; exact HD
        clear HD h0
        go_wp2_with (go_at_call 65; refine (op_1 m z V E _ HM.out Hz.out HE.out).mono ?_; rintro e w1 ⟨rfl, rfl⟩)
        go_ret2
        exact ⟨ret_ie HD2.out, rfl⟩
    · have hki : ¬ (k : Int) < (N : Int) := by omega
      have HD2 : Hid ((m, 0) = (v, e0)) := by
        have h := HF.out
        rw [List.drop_eq_nil_of_le (by rw [HN.out]; omega), foldE_nil] at h
        exact h
      go_wp2
      go_ret2
      exact ⟨ret_ie HD2.out, rfl⟩
theorem op_0 (a b v e0 : Int) (w : World) (ha : inB a = true) (hb : inB b = true) (h : twoF 0 a b = (v, e0)) :
    Calls Tryd.prog 66 #[.int .i64 a, .int .i64 b] w fun e w' => e = .returned (.tuple #[.int .i64 v, .int .i64 e0]) ∧ w' = w := by
  have h' : (resV (a * b), resE (a * b)) = (v, e0) := h
  obtain ⟨rfl, rfl⟩ := Prod.mk.inj h'
  exact mul_any a b w ha hb
set_option maxHeartbeats 1000000 in
set_option maxRecDepth 4000 in
theorem fold_0 (n v e0 : Int) (ao : Option Addr) (cap N : Nat) (ns : List Int) (w : World) (hN : ns.length = N) (hv : IntsW w ao ns) (hn : inB n = true) (hl : ∀ x ∈ ns, inB x = true) (hm : N ≤ 1000) (hr : foldE (twoF 0) n ns = (v, e0)) :
    Calls Tryd.prog 64 #[.func (.func 66) #[] #[], .int .i64 n, .slice ao N cap] w fun e w' => e = .returned (.tuple #[.int .i64 v, .int .i64 e0]) ∧ w' = w := by
  have HV : Hid (IntsW w ao ns) := hv
  have HL : Hid (∀ x ∈ ns, inB x = true) := hl
  have HN : Hid (ns.length = N) := hN
  have HR : Hid (foldE (twoF 0) n ns = (v, e0)) := hr
  have HI : Hid (inB n = true) := hn
  clear hv hl hN hr hn
  go_enter Tryd.func64, Tryd.ntmps64
  go_wp2
  go_loop [8, 15] (fun x i => ∃ (k : Nat) (m : Int), k ≤ N ∧ i = .int .i64 k ∧ x = .int .i64 m ∧ Hid (inB m = true) ∧ Hid (foldE (twoF 0) m (ns.drop k) = (v, e0))) (fun _ i => N - (intOf i).toNat)
  case atStart => exact ⟨0, n, Nat.zero_le _, rfl, rfl, HI, HR⟩
  case round =>
    obtain ⟨k, m, hk, rfl, rfl, HM, HF⟩ := hrel
    by_cases hlt : k < N
    · have hki : (k : Int) < (N : Int) := by omega
      obtain ⟨z, HZ⟩ : ∃ z, Hid (ns[k]? = some z) := ⟨_, List.getElem?_eq_getElem (by rw [HN.out]; exact hlt)⟩
      obtain ⟨b, o, rfl, hc⟩ := HV.out k z HZ.out
      have Hz : Hid (inB z = true) := in_get HL.out HZ.out
      have HD := HF.out
      rw [drop_at HZ.out] at HD
      obtain ⟨V, E, HE⟩ : ∃ V E, Hid (twoF 0 m z = (V, E)) := ⟨_, _, rfl⟩
      have HVi : Hid (inB V = true) := by have := twoF_in 0 m z HM.out Hz.out; rw [HE.out] at this; exact this
      by_cases h0 : E = 0
      · subst h0
        have HD2 : Hid (foldE (twoF 0) V (ns.drop (k + 1)) = (v, e0)) := by rw [foldE_go HE.out] at HD; exact HD
        clear HD
        go_wp2_with (go_at_call 66; refine (op_0 m z V 0 _ HM.out Hz.out HE.out).mono ?_; rintro e w1 ⟨rfl, rfl⟩)
        go_round
        case rel => exact ⟨k + 1, V, by omega, by go_num, rfl, HVi, HD2⟩
        case measure => simp [intOf]; omega
      · have d0 : (E != 0) = true := by simpa using h0
        have HD2 : Hid ((0, E) = (v, e0)) := by rw [foldE_no HE.out h0] at HD; exact HD
        clear HD h0
        go_wp2_with (go_at_call 66; refine (op_0 m z V E _ HM.out Hz.out HE.out).mono ?_; rintro e w1 ⟨rfl, rfl⟩)
        go_ret2
        exact ⟨ret_ie HD2.out, rfl⟩
    · have hki : ¬ (k : Int) < (N : Int) := by omega
      have HD2 : Hid ((m, 0) = (v, e0)) := by
        have h := HF.out
        rw [List.drop_eq_nil_of_le (by rw [HN.out]; omega), foldE_nil] at h
        exact h
      go_wp2
      go_ret2
      exact ⟨ret_ie HD2.out, rfl⟩
theorem op_2 (a b v e0 : Int) (w : World) (ha : inB a = true) (hb : inB b = true) (h : twoF 2 a b = (v, e0)) :
    Calls Tryd.prog 71 #[.int .i64 a, .int .i64 b] w fun e w' => e = .returned (.tuple #[.int .i64 v, .int .i64 e0]) ∧ w' = w := by
  have h' : (resV (a - b), resE (a - b)) = (v, e0) := h
  obtain ⟨rfl, rfl⟩ := Prod.mk.inj h'
  exact sub_any a b w ha hb
set_option maxHeartbeats 1000000 in
set_option maxRecDepth 4000 in
theorem fold_2 (n v e0 : Int) (ao : Option Addr) (cap N : Nat) (ns : List Int) (w : World) (hN : ns.length = N) (hv : IntsW w ao ns) (hn : inB n = true) (hl : ∀ x ∈ ns, inB x = true) (hm : N ≤ 1000) (hr : foldE (twoF 2) n ns = (v, e0)) :
    Calls Tryd.prog 64 #[.func (.func 71) #[] #[], .int .i64 n, .slice ao N cap] w fun e w' => e = .returned (.tuple #[.int .i64 v, .int .i64 e0]) ∧ w' = w := by
  have HV : Hid (IntsW w ao ns) := hv
  have HL : Hid (∀ x ∈ ns, inB x = true) := hl
  have HN : Hid (ns.length = N) := hN
  have HR : Hid (foldE (twoF 2) n ns = (v, e0)) := hr
  have HI : Hid (inB n = true) := hn
  clear hv hl hN hr hn
  go_enter Tryd.func64, Tryd.ntmps64
  go_wp2
  go_loop [8, 15] (fun x i => ∃ (k : Nat) (m : Int), k ≤ N ∧ i = .int .i64 k ∧ x = .int .i64 m ∧ Hid (inB m = true) ∧ Hid (foldE (twoF 2) m (ns.drop k) = (v, e0))) (fun _ i => N - (intOf i).toNat)
  case atStart => exact ⟨0, n, Nat.zero_le _, rfl, rfl, HI, HR⟩
  case round =>
    obtain ⟨k, m, hk, rfl, rfl, HM, HF⟩ := hrel
    by_cases hlt : k < N
    · have hki : (k : Int) < (N : Int) := by omega
      obtain ⟨z, HZ⟩ : ∃ z, Hid (ns[k]? = some z) := ⟨_, List.getElem?_eq_getElem (by rw [HN.out]; exact hlt)⟩
      obtain ⟨b, o, rfl, hc⟩ := HV.out k z HZ.out
      have Hz : Hid (inB z = true) := in_get HL.out HZ.out
      have HD := HF.out
      rw [drop_at HZ.out] at HD
      obtain ⟨V, E, HE⟩ : ∃ V E, Hid (twoF 2 m z = (V, E)) := ⟨_, _, rfl⟩
      have HVi : Hid (inB V = true) := by have := twoF_in 2 m z HM.out Hz.out; rw [HE.out] at this; exact this
      by_cases h0 : E = 0
      · subst h0
        have HD2 : Hid (foldE (twoF 2) V (ns.drop (k + 1)) = (v, e0)) := by rw [foldE_go HE.out] at HD; exact HD
        clear HD
        go_wp2_with (go_at_call 71; refine (op_2 m z V 0 _ HM.out Hz.out HE.out).mono ?_; rintro e w1 ⟨rfl, rfl⟩)
        go_round
        case rel => exact ⟨k + 1, V, by omega, by go_num, rfl, HVi, HD2⟩
        case measure => simp [intOf]; omega
      · have d0 : (E != 0) = true := by simpa using h0
        have HD2 : Hid ((0, E) = (v, e0)) := by rw [foldE_no HE.out h0] at HD; exact HD
        clear HD h0
        go_wp2_with (go_at_call 71; refine (op_2 m z V E _ HM.out Hz.out HE.out).mono ?_; rintro e w1 ⟨rfl, rfl⟩)
        go_ret2
        exact ⟨ret_ie HD2.out, rfl⟩
    · have hki : ¬ (k : Int) < (N : Int) := by omega
      have HD2 : Hid ((m, 0) = (v, e0)) := by
        have h := HF.out
        rw [List.drop_eq_nil_of_le (by rw [HN.out]; omega), foldE_nil] at h
        exact h
      go_wp2
      go_ret2
      exact ⟨ret_ie HD2.out, rfl⟩
set_option maxHeartbeats 1000000 in
set_option maxRecDepth 4000 in
theorem slices_14 (n v : Int) (ao : Option Addr) (cap N : Nat) (ns : List Int) (w : World) (hN : ns.length + 1 = N) (hv : IntsW w ao (n :: ns)) (hm : N ≤ 1000) (hr : foldE (twoF 14) n ns = (v, 0)) :
    Calls Tryd.prog 69 #[.slice ao N cap] w fun e w' => e = .returned (.int .i64 v) ∧ w' = w := by
  obtain ⟨b, o, rfl, hc0⟩ := hv 0 n rfl
  have hc0' : w.cell? ⟨b, o, none⟩ = some (.int .i64 n) := hc0
  have h1 : (1 : Int) ≤ (N : Int) := by omega
  have HV : Hid (IntsW w (some ⟨b, o, none⟩) (n :: ns)) := hv
  have HN : Hid (ns.length + 1 = N) := hN
  have HR : Hid (foldE (twoF 14) n ns = (v, 0)) := hr
  clear hv hN hr hc0
  go_enter Tryd.func69, Tryd.ntmps69
  go_wp2
  go_loop [3, 4] (fun x i => ∃ (k : Nat) (m : Int), k + 1 ≤ N ∧ i = .int .i64 ((k : Int) + 1) ∧ x = .int .i64 m ∧ Hid (foldE (twoF 14) m (ns.drop k) = (v, 0))) (fun _ i => N - (intOf i).toNat)
  case atStart => exact ⟨0, n, by have := HN.out; omega, rfl, rfl, HR⟩
  case round =>
    obtain ⟨k, m, hk, rfl, rfl, HF⟩ := hrel
    by_cases hlt : k + 1 < N
    · have hki : (k : Int) + 1 < (N : Int) := by omega
      obtain ⟨z, HZ⟩ : ∃ z, Hid (ns[k]? = some z) := ⟨_, List.getElem?_eq_getElem (by have := HN.out; omega)⟩
      obtain ⟨b', o', hbo, hc⟩ := HV.out (k + 1) z HZ.out
      obtain ⟨rfl, rfl⟩ : b' = b ∧ o' = o := by injection hbo with h; injection h with h1 h2; exact ⟨h1.symm, h2.symm⟩
      have HD := HF.out
      rw [drop_at HZ.out] at HD
      by_cases hx : z < m
      · have HE : twoF 14 m z = (z, 0) := by show (if z < m then z else m, 0) = _; rw [if_pos hx]
        have HD2 : Hid (foldE (twoF 14) z (ns.drop (k + 1)) = (v, 0)) := by rw [foldE_go HE] at HD; exact HD
        clear HD HE
        go_wp2
        go_round
        case rel => exact ⟨k + 1, z, by omega, by go_num, congrArg (Value.int .i64) (by omega), HD2⟩
        case measure => simp [intOf]; omega
      · have HE : twoF 14 m z = (m, 0) := by show (if z < m then z else m, 0) = _; rw [if_neg hx]
        have HD2 : Hid (foldE (twoF 14) m (ns.drop (k + 1)) = (v, 0)) := by rw [foldE_go HE] at HD; exact HD
        clear HD HE
        go_wp2
        go_round
        case rel => exact ⟨k + 1, m, by omega, by go_num, congrArg (Value.int .i64) (by omega), HD2⟩
        case measure => simp [intOf]; omega
    · have hki : ¬ (k : Int) + 1 < (N : Int) := by omega
      have HD2 : Hid ((m, 0) = (v, (0 : Int))) := by
        have h := HF.out
        rw [List.drop_eq_nil_of_le (by have := HN.out; omega), foldE_nil] at h
        exact h
      go_wp2
      go_ret
      exact ⟨ret_i (Prod.mk.inj HD2.out).1, rfl⟩
set_option maxHeartbeats 1000000 in
set_option maxRecDepth 4000 in
theorem slices_13 (n v : Int) (ao : Option Addr) (cap N : Nat) (ns : List Int) (w : World) (hN : ns.length + 1 = N) (hv : IntsW w ao (n :: ns)) (hm : N ≤ 1000) (hr : foldE (twoF 13) n ns = (v, 0)) :
    Calls Tryd.prog 70 #[.slice ao N cap] w fun e w' => e = .returned (.int .i64 v) ∧ w' = w := by
  obtain ⟨b, o, rfl, hc0⟩ := hv 0 n rfl
  have hc0' : w.cell? ⟨b, o, none⟩ = some (.int .i64 n) := hc0
  have h1 : (1 : Int) ≤ (N : Int) := by omega
  have HV : Hid (IntsW w (some ⟨b, o, none⟩) (n :: ns)) := hv
  have HN : Hid (ns.length + 1 = N) := hN
  have HR : Hid (foldE (twoF 13) n ns = (v, 0)) := hr
  clear hv hN hr hc0
  go_enter Tryd.func70, Tryd.ntmps70
  go_wp2
  go_loop [3, 4] (fun x i => ∃ (k : Nat) (m : Int), k + 1 ≤ N ∧ i = .int .i64 ((k : Int) + 1) ∧ x = .int .i64 m ∧ Hid (foldE (twoF 13) m (ns.drop k) = (v, 0))) (fun _ i => N - (intOf i).toNat)
  case atStart => exact ⟨0, n, by have := HN.out; omega, rfl, rfl, HR⟩
  case round =>
    obtain ⟨k, m, hk, rfl, rfl, HF⟩ := hrel
    by_cases hlt : k + 1 < N
    · have hki : (k : Int) + 1 < (N : Int) := by omega
      obtain ⟨z, HZ⟩ : ∃ z, Hid (ns[k]? = some z) := ⟨_, List.getElem?_eq_getElem (by have := HN.out; omega)⟩
      obtain ⟨b', o', hbo, hc⟩ := HV.out (k + 1) z HZ.out
      obtain ⟨rfl, rfl⟩ : b' = b ∧ o' = o := by injection hbo with h; injection h with h1 h2; exact ⟨h1.symm, h2.symm⟩
      have HD := HF.out
      rw [drop_at HZ.out] at HD
      by_cases hx : m < z
      · have HE : twoF 13 m z = (z, 0) := by show (if m < z then z else m, 0) = _; rw [if_pos hx]
        have HD2 : Hid (foldE (twoF 13) z (ns.drop (k + 1)) = (v, 0)) := by rw [foldE_go HE] at HD; exact HD
        clear HD HE
        go_wp2
        go_round
        case rel => exact ⟨k + 1, z, by omega, by go_num, congrArg (Value.int .i64) (by omega), HD2⟩
        case measure => simp [intOf]; omega
      · have HE : twoF 13 m z = (m, 0) := by show (if m < z then z else m, 0) = _; rw [if_neg hx]
        have HD2 : Hid (foldE (twoF 13) m (ns.drop (k + 1)) = (v, 0)) := by rw [foldE_go HE] at HD; exact HD
        clear HD HE
        go_wp2
        go_round
        case rel => exact ⟨k + 1, m, by omega, by go_num, congrArg (Value.int .i64) (by omega), HD2⟩
        case measure => simp [intOf]; omega
    · have hki : ¬ (k : Int) + 1 < (N : Int) := by omega
      have HD2 : Hid ((m, 0) = (v, (0 : Int))) := by
        have h := HF.out
        rw [List.drop_eq_nil_of_le (by have := HN.out; omega), foldE_nil] at h
        exact h
      go_wp2
      go_ret
      exact ⟨ret_i (Prod.mk.inj HD2.out).1, rfl⟩
set_option maxHeartbeats 1000000 in
set_option maxRecDepth 4000 in
theorem allstand_any (s : ByteArray) (r : Bool) (ao : Option Addr) (cap N : Nat) (ns : List Int) (w : World) (hN : ns.length = N) (hv : IntsW w ao ns) (hm : N ≤ 1000) (h2 : 2 ≤ N) (hc : cmpC (code s) = true) (hr : chainB (code s) ns = r) :
    Calls Tryd.prog 50 #[.string s, .slice ao N cap] w fun e w' => e = .returned (.bool r) ∧ SameW w w' := by
  have HV : Hid (IntsW w ao ns) := hv
  have HN : Hid (ns.length = N) := hN
  have HR : Hid (chainB (code s) ns = r) := hr
  have HC : Hid (cmpC (code s) = true) := hc
  clear hv hN hr hc
  go_enter Tryd.func50, Tryd.ntmps50
  go_wp2
  go_loopw [5] (fun i wr => ∃ k : Nat, k + 1 ≤ N ∧ i = .int .i64 ((k : Int) + 1) ∧ Hid (SameW w wr) ∧ Hid (chainB (code s) (ns.take (k + 1)) = true)) (fun i _ => N - (intOf i).toNat)
  case atStart =>
    refine ⟨0, by omega, rfl, SameW.refl _, ?_⟩
    rw [Hid]
    cases e : ns with
    | nil => rfl
    | cons a t => rfl
  case round =>
    obtain ⟨k, hk, rfl, HW, HT⟩ := hrel
    by_cases hlt : k + 1 < N
    · have hki : (k : Int) + 1 < (N : Int) := by omega
      obtain ⟨x, HX⟩ : ∃ x, Hid (ns[k]? = some x) := ⟨_, List.getElem?_eq_getElem (by rw [HN.out]; omega)⟩
      obtain ⟨z, HZ⟩ : ∃ z, Hid (ns[k + 1]? = some z) := ⟨_, List.getElem?_eq_getElem (by rw [HN.out]; exact hlt)⟩
      obtain ⟨b, o, rfl, hc1⟩ := (HV.out.same HW.out) k x HX.out
      obtain ⟨b', o', hbo, hc2⟩ := (HV.out.same HW.out) (k + 1) z HZ.out
      obtain ⟨rfl, rfl⟩ : b' = b ∧ o' = o := by injection hbo with h; injection h with h1 h2; exact ⟨h1.symm, h2.symm⟩
      have h0k : (0 : Int) ≤ (k : Int) := by omega
      have hkn : (k : Int) < (N : Int) := by omega
      obtain ⟨q, HQ⟩ : ∃ q, Hid (standB (code s) x z = q) := ⟨_, rfl⟩
      have HT2 : Hid (chainB (code s) (ns.take (k + 2)) = q) := by rw [Hid, chain_take _ _ k x z HX.out HZ.out, HT.out, HQ.out]; rfl
      clear hbo
      go_wp2
      go_quiet ((go_at_call 63; exact Calls.quiet_of_same (stand_any s x z q _ HC.out HQ.out)))
      cases q
      · have HF : Hid (r = false) := by rw [Hid, ← HR.out]; exact chain_false _ HT2.out
        go_wp2
        go_ret
        exact ⟨ret_b HF.out.symm, HW.out.drewN _⟩
      · go_wp2
        go_roundw
        case rel => exact ⟨k + 1, by omega, by go_num, HW.out.drewN _, HT2⟩
        case measure => simp [intOf]; omega
    · have hki : ¬ (k : Int) + 1 < (N : Int) := by omega
      have HF : Hid (r = true) := by
        rw [Hid, ← HR.out, ← HT.out, List.take_of_length_le (by rw [HN.out]; omega)]
      go_wp2
      go_ret
      exact ⟨ret_b HF.out.symm, HW.out⟩
end Go.Proofs.YtfglmfldpmpofaaDoor
