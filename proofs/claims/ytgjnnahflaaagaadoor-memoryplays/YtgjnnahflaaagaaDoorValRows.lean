/- The contract of the reference's Rows: any two rows of values, in old memory. -/
import Derived.Test.YtgjnnahflaaagaaDoorValHash
import Derived.Deep.RegionHeld3
namespace Go.Proofs.YtgjnnahflaaagaaDoor
open Go.RowKit

/-- Are two rows the same? Said by their texts, which tell them apart. -/
def rowsB (L M : List Val) : Bool := decide (hashL L = hashL M)
theorem rows_yes {L M : List Val} (h : L = M) : rowsB L M = true := by unfold rowsB; rw [h]; simp
theorem rows_no {L M : List Val} (h : L ≠ M) : rowsB L M = false := by unfold rowsB; exact decide_eq_false fun e => h (hashL_inj L M e)
theorem val_eq {v u : Val} : sameB v.k v.i v.s u.k u.i u.s = true ↔ v = u := by
  rw [sameB_iff]
  constructor
  · rintro ⟨a, b, c⟩
    cases v; cases u
    simp at a b c
    rw [a, b, c]
  · intro h; rw [h]; exact ⟨rfl, rfl, rfl⟩
theorem rows_take {L M : List Val} (hl : L.length = M.length) (h : L.take L.length = M.take L.length) : L = M := by
  rw [List.take_length, hl, List.take_length] at h; exact h
theorem rows_step {L M : List Val} {n : Nat} {v u : Val} (hv : L[n]? = some v) (hu : M[n]? = some u) (h : L.take n = M.take n) (e : v = u) : L.take (n + 1) = M.take (n + 1) := by
  obtain ⟨h1, e1⟩ := List.getElem?_eq_some_iff.1 hv
  obtain ⟨h2, e2⟩ := List.getElem?_eq_some_iff.1 hu
  rw [List.take_succ_eq_append_getElem h1, List.take_succ_eq_append_getElem h2, h, e1, e2, e]

theorem rows_len (ao bo : Option Addr) (ca cb : Nat) (L M : List Val) (w : World) (hne : L.length ≠ M.length) :
    Calls Tryd.prog 10 #[.slice ao L.length ca, .slice bo M.length cb] w fun e w' => e = .returned (.bool (rowsB L M)) ∧ Below w.heap.size w w' := by
  have HE : Hid (rowsB L M = false) := rows_no fun h => hne (by rw [h])
  have d : ((L.length : Int) != (M.length : Int)) = true := by simp; omega
  clear hne
  go_enter Tryd.func10, Tryd.ntmps10
  go_wp2
  go_ret
  exact ⟨ret_b HE.out.symm, Below.refl _ _⟩

set_option maxHeartbeats 4000000 in
set_option maxRecDepth 100000 in
theorem rows_same (ao bo : Option Addr) (ca cb N : Nat) (L M : List Val) (w : World) (ha : IsVals w ao L) (hb : IsVals w bo M) (hL : L.length = N) (hM : M.length = N) (hN : N ≤ 100) :
    Calls Tryd.prog 10 #[.slice ao N ca, .slice bo N cb] w fun e w' => e = .returned (.bool (rowsB L M)) ∧ Below w.heap.size w w' := by
  obtain ⟨B, HB⟩ : ∃ B, Hid (w.heap.size = B) := ⟨_, rfl⟩
  have HV : Hid (IsVals w ao L) := ha
  have HU : Hid (IsVals w bo M) := hb
  have HL : Hid (L.length = N) := hL
  have HM : Hid (M.length = N) := hM
  clear ha hb hL hM
  go_enter Tryd.func10, Tryd.ntmps10
  go_wp2
  go_loopw [5] (fun i wr => ∃ n : Nat, n ≤ N ∧ i = .int .i64 n ∧ Hid (L.take n = M.take n) ∧ Hid (Below B w wr)) (fun i _ => N - (intOf i).toNat)
  case atStart => exact ⟨0, Nat.zero_le _, rfl, rfl, Below.refl _ _⟩
  case round =>
    obtain ⟨n, hn, rfl, HT, HW⟩ := hrel
    by_cases hlt : n < N
    · have hli : (n : Int) < (N : Int) := by omega
      have hl0 : (0 : Int) ≤ (n : Int) := by omega
      obtain ⟨v, HG⟩ : ∃ v, Hid (L[n]? = some v) := ⟨_, List.getElem?_eq_getElem (by rw [HL.out]; exact hlt)⟩
      obtain ⟨u, HF⟩ : ∃ u, Hid (M[n]? = some u) := ⟨_, List.getElem?_eq_getElem (by rw [HM.out]; exact hlt)⟩
      obtain ⟨b, o, rfl, c0, c1, c2⟩ := HV.out n v HG.out
      obtain ⟨b', o', rfl, e0, e1, e2⟩ := HU.out n u HF.out
      have c0' : wr.cell? ⟨b, o + n * 3, none⟩ = some (.int .i64 v.k) := by rw [HW.out.cell (by rw [← HB.out]; exact World.block_lt_of_cell? _ _ c0)]; exact c0
      have c1' : wr.cell? ⟨b, o + n * 3 + 1, none⟩ = some (.int .i64 v.i) := by rw [HW.out.cell (by rw [← HB.out]; exact World.block_lt_of_cell? _ _ c1)]; exact c1
      have c2' : wr.cell? ⟨b, o + n * 3 + 2, none⟩ = some (.string v.s) := by rw [HW.out.cell (by rw [← HB.out]; exact World.block_lt_of_cell? _ _ c2)]; exact c2
      have e0' : wr.cell? ⟨b', o' + n * 3, none⟩ = some (.int .i64 u.k) := by rw [HW.out.cell (by rw [← HB.out]; exact World.block_lt_of_cell? _ _ e0)]; exact e0
      have e1' : wr.cell? ⟨b', o' + n * 3 + 1, none⟩ = some (.int .i64 u.i) := by rw [HW.out.cell (by rw [← HB.out]; exact World.block_lt_of_cell? _ _ e1)]; exact e1
      have e2' : wr.cell? ⟨b', o' + n * 3 + 2, none⟩ = some (.string u.s) := by rw [HW.out.cell (by rw [← HB.out]; exact World.block_lt_of_cell? _ _ e2)]; exact e2
      clear c0 c1 c2 e0 e1 e2
      obtain ⟨sb, HS⟩ : ∃ sb, Hid (sameB v.k v.i v.s u.k u.i u.s = sb) := ⟨_, rfl⟩
      have hsm : Hid (∀ w : World, Calls Tryd.prog 25 #[.agg #[.int .i64 (v.k), .int .i64 (v.i), .string (v.s)], .agg #[.int .i64 (u.k), .int .i64 (u.i), .string (u.s)]] w fun e w' => e = .returned (.bool sb) ∧ Below w.heap.size w w') := by
        intro w; rw [← HS.out]; exact rsame_any _ _ _ _ _ _ w
      have s0 : Below B w wr.drew := HW.out.drew
      have s1 : B ≤ wr.drew.heap.size := by have := s0.size; have := HB.out; omega
      go_wp2
      go_region_held3 (fun w' => w'.cell? ⟨b, o + n * 3, none⟩ = some (.int .i64 v.k) ∧ w'.cell? ⟨b, o + n * 3 + 1, none⟩ = some (.int .i64 v.i) ∧ w'.cell? ⟨b, o + n * 3 + 2, none⟩ = some (.string v.s) ∧ w'.cell? ⟨b', o' + n * 3, none⟩ = some (.int .i64 u.k) ∧ w'.cell? ⟨b', o' + n * 3 + 1, none⟩ = some (.int .i64 u.i) ∧ w'.cell? ⟨b', o' + n * 3 + 2, none⟩ = some (.string u.s) ∧ Below B w w' ∧ B ≤ w'.heap.size)
        (((try dsimp only); go_split_ands; refine ⟨?_, ?_, ?_, ?_, ?_, ?_, ?_, ?_⟩ <;> first | assumption | exact keep_cell (by assumption) (by assumption) | exact below_next (by assumption) (by assumption) (by assumption) | exact Nat.le_trans (by assumption) (Below.size (by assumption))))
        (first | (go_at_call 25; refine (hsm.out _).mono ?_; rintro e w' ⟨rfl, hb⟩))
      go_split_ands
      cases sb
      · have HE : Hid (rowsB L M = false) := by
          refine rows_no fun h => ?_
          have hv := HG.out
          rw [h, HF.out] at hv
          have := HS.out
          rw [Option.some.inj hv, sameB_refl] at this
          exact absurd this (by decide)
        go_wp2
        go_ret
        refine ⟨ret_b HE.out.symm, ?_⟩
        rw [HB.out]
        assumption
      · have HT2 : Hid (L.take (n + 1) = M.take (n + 1)) := rows_step HG.out HF.out HT.out (val_eq.1 HS.out)
        go_wp2
        go_roundw
        case rel => exact ⟨n + 1, by omega, by go_num, HT2, by rw [Hid]; assumption⟩
        case measure => simp [intOf]; omega
    · have hli : ¬ (n : Int) < (N : Int) := by omega
      have HE : Hid (rowsB L M = true) := by
        refine rows_yes (rows_take (by rw [HL.out, HM.out]) ?_)
        rw [HL.out]
        have := HT.out
        rwa [show n = N by omega] at this
      go_wp2
      go_ret
      refine ⟨ret_b HE.out.symm, ?_⟩
      rw [HB.out]
      exact HW.out
theorem rows_any (ao bo : Option Addr) (ca cb : Nat) (L M : List Val) (w : World) (ha : IsVals w ao L) (hb : IsVals w bo M) (hN : L.length ≤ 100) :
    Calls Tryd.prog 10 #[.slice ao L.length ca, .slice bo M.length cb] w fun e w' => e = .returned (.bool (rowsB L M)) ∧ Below w.heap.size w w' := by
  by_cases h : L.length = M.length
  · rw [← h]; exact rows_same ao bo ca cb _ L M w ha hb rfl h.symm hN
  · exact rows_len ao bo ca cb L M w h
end Go.Proofs.YtgjnnahflaaagaaDoor
