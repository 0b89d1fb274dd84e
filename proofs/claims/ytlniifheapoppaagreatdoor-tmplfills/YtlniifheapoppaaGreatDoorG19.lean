/- The law's Tells. -/
import Derived.Deep.RegionHeld3
import Derived.Test.YtlniifheapoppaaGreatDoorG18
import Derived.Test.YtlniifheapoppaaGreatDoorG8
namespace Go.Proofs.YtlniifheapoppaaGreatDoor
open Go.RowKit

set_option maxHeartbeats 4000000 in
set_option maxRecDepth 8000 in
theorem tells_nil (w : World) :
    Calls Tryz.prog 11 #[.nilIface, .agg #[.slice none 0 0, .int .i64 0]] w fun e w' => e = .returned (.bool true) ∧ Below w.heap.size w w' := by
  go_enter Tryz.func11, Tryz.ntmps11
  go_wp2
  go_ret
  exact ⟨rfl, alloc_below _ _⟩

/-- What Tells asks first, at any later world. -/
structure TellC (W : World) (v : Value) (ao : Option Addr) (M cap : Nat) (n : Int) (T : ByteArray) : Prop where
  told : ∀ w', Below W.heap.size W w' → Calls Tryz.prog 41 #[v] w' fun e w2 => e = .returned (.string T) ∧ Below w'.heap.size w' w2
  rtold : ∀ w', Below W.heap.size W w' → Calls Tryz.prog 42 #[.agg #[.slice ao M cap, .int .i64 n]] w' fun e w2 => e = .returned (.string T) ∧ Below w'.heap.size w' w2
  num : ∀ w', Below W.heap.size W w' → Calls Tryz.prog 43 #[v] w' fun e w2 => e = .returned (.int .i64 n) ∧ Below w'.heap.size w' w2
  is_ : ∀ w', Below W.heap.size W w' → Calls Tryz.prog 44 #[v, .iface 63 (.int .i64 n)] w' fun e w2 => e = .returned (.bool true) ∧ Below w'.heap.size w' w2
theorem tellC (n : Int) (ps : List Pt) (v : Value) (ao : Option Addr) (cap : Nat) (W : World) (hC : Chain W n ps v) (hP : PtsAt W ao ps) (hg : ErrW W) (ht : TabW W) (h1 : 1 ≤ n) (h2 : n ≤ 11) (hl : ps.length ≤ 1000) (hp : ∀ p ∈ ps, p.1.length ≤ 1000 ∧ inB p.2 = true) :
    TellC W v ao ps.length cap n (baL (toldL (wordE n) ps)) :=
  ⟨fun w' h => told_chain n ps v w' (hC.next h) (keep_cell h hg) (tab_next ht h) h1 h2 hl hp,
   fun w' h => rtold_any n ps ao cap w' (hP.next h) h1 h2 hl hp,
   fun w' h => number_any n ps v w' (hC.next h) (keep_cell h hg),
   fun w' h => (is_any5 n ps v w' (hC.next h)).mono fun e w2 he => ⟨he.1, by rw [he.2]; exact Below.refl _ _⟩⟩

set_option maxHeartbeats 8000000 in
set_option maxRecDepth 20000 in
theorem tells_err (n : Int) (ao : Option Addr) (cap : Nat) (w : World) (hg : ErrW w) (ht : TabW w) (h1 : 1 ≤ n) (h2 : n ≤ 11) :
    Calls Tryz.prog 11 #[.iface 63 (.int .i64 n), .agg #[.slice ao 0 cap, .int .i64 n]] w fun e w' => e = .returned (.bool true) ∧ Below w.heap.size w w' := by
  obtain ⟨W, HWe⟩ : ∃ W, Hid (w.alloc (.cells #[.slice ao 0 cap, .int .i64 n] 27) = W) := ⟨_, rfl⟩
  have HBW : Hid (Below w.heap.size w W) := by rw [← HWe.out]; exact alloc_below _ _
  have c0 : W.cell? ⟨w.heap.size, 0, none⟩ = some (.slice ao 0 cap) := by rw [← HWe.out]; exact box0 rfl
  have c1 : W.cell? ⟨w.heap.size, 1, none⟩ = some (.int .i64 n) := by rw [← HWe.out]; exact box0 rfl
  obtain ⟨T, HT⟩ : ∃ T, Hid (baL (toldL (wordE n) []) = T) := ⟨_, rfl⟩
  have HC : Hid (TellC W (.iface 63 (.int .i64 n)) ao 0 cap n T) := by
    rw [← HT.out]
    exact tellC n [] _ ao cap W rfl (PtsAt.nil _ _) (keep_cell HBW.out hg) (tab_next ht HBW.out) h1 h2 (by simp) (fun p h => by simp at h)
  have HA : Hid (∀ w', Below W.heap.size W w' → Calls Tryz.prog 45 #[.iface 63 (.int .i64 n), .iface 106 (.pointer (some ⟨w'.heap.size, 0, none⟩))] (w'.alloc (.cells #[.pointer none] 104)) fun e w2 => e = .returned (.bool false) ∧ Below w'.heap.size w' w2) := fun w' h => by
    refine (as_ef n _ _ (alloc_cell (keep_cell h (keep_cell HBW.out hg)))).mono ?_
    rintro e w2 ⟨rfl, hb⟩
    exact ⟨rfl, next_trans (alloc_below _ _) hb⟩
  have hn0 : (n == 0) = false := by simp; omega
  have s0 : Below W.heap.size W W.drew := (Below.refl _ _).drew
  have s1 : W.heap.size ≤ W.drew.heap.size := Nat.le_refl _
  clear hg ht h1 h2
  go_enter Tryz.func11, Tryz.ntmps11
  go_wp2_with fail
  rw [HWe.out]
  go_wp2_with fail
  go_region_held3 (fun w' => w'.cell? ⟨w.heap.size, 0, none⟩ = some (.slice ao 0 cap) ∧ w'.cell? ⟨w.heap.size, 1, none⟩ = some (.int .i64 n) ∧ Below W.heap.size W w' ∧ W.heap.size ≤ w'.heap.size)
    (((try dsimp only); go_split_ands; refine ⟨?_, ?_, ?_, ?_⟩ <;> first | assumption | exact keep_cell (by assumption) (by assumption) | exact below_next (by assumption) (by assumption) (by assumption) | exact le_next (by assumption) (by assumption)))
    (first
      | (go_at_call 41; go_split_ands; refine (HC.out.told _ (by assumption)).mono ?_; rintro e w' ⟨rfl, hb⟩)
      | (go_at_call 42; go_split_ands; refine (HC.out.rtold _ (by assumption)).mono ?_; rintro e w' ⟨rfl, hb⟩)
      | (go_at_call 43; go_split_ands; refine (HC.out.num _ (by assumption)).mono ?_; rintro e w' ⟨rfl, hb⟩)
      | (go_at_call 44; go_split_ands; refine (HC.out.is_ _ (by assumption)).mono ?_; rintro e w' ⟨rfl, hb⟩))
  all_goals
    go_split_ands
    have z0 : (w'.alloc (.cells #[.pointer none] 104)).cell? ⟨w.heap.size, 0, none⟩ = some (.slice ao 0 cap) := alloc_cell (by assumption)
    go_wp2_with fail
    refine (HA.out w' (by assumption)).mono ?_
    rintro e w3 ⟨rfl, hb3⟩
    have HB3 : Hid (Below w.heap.size w w3) := next_trans HBW.out (next_trans (by assumption) hb3)
    clear hb3
    go_wp2
    go_ret
    exact ⟨rfl, HB3.out⟩

theorem as_flt (B T : Nat) (w : World) (hg : ErrW w) (ht : w.cell? ⟨T, 0, none⟩ = some (.pointer none)) (hf : w.frozen? ⟨T, 0, none⟩ = false) :
    Calls Tryz.prog 45 #[.iface 104 (.pointer (some ⟨B, 0, none⟩)), .iface 106 (.pointer (some ⟨T, 0, none⟩))] w fun e w' => e = .returned (.bool true) ∧ w'.cell? ⟨T, 0, none⟩ = some (.pointer (some ⟨B, 0, none⟩)) ∧ Below T w w' := by
  refine (as_hit ⟨B, 0, none⟩ ⟨T, 0, none⟩ (.pointer none) w hg ht hf).mono ?_
  rintro e w' ⟨rfl, rfl⟩
  exact ⟨rfl, as_self _ _ _ _ ht, as_below _ _ _ _ (Nat.le_of_lt (World.block_lt_of_cell? w ⟨T, 0, none⟩ ht)) (Nat.le_refl _)⟩

set_option maxHeartbeats 8000000 in
set_option maxRecDepth 20000 in
theorem tells_flt (n : Int) (p : Pt) (r : List Pt) (v : Value) (ao : Option Addr) (cap : Nat) (w : World) (hC : Chain w n (p :: r) v) (hP : PtsAt w ao (p :: r)) (hg : ErrW w) (ht : TabW w) (h1 : 1 ≤ n) (h2 : n ≤ 11) (hl : (p :: r).length ≤ 1000) (hp : ∀ q ∈ p :: r, q.1.length ≤ 1000 ∧ inB q.2 = true) :
    Calls Tryz.prog 11 #[v, .agg #[.slice ao (p :: r).length cap, .int .i64 n]] w fun e w' => e = .returned (.bool true) ∧ Below w.heap.size w w' := by
  obtain ⟨M, HM⟩ : ∃ M, Hid ((p :: r).length = M) := ⟨_, rfl⟩
  obtain ⟨W, HWe⟩ : ∃ W, Hid (w.alloc (.cells #[.slice ao M cap, .int .i64 n] 27) = W) := ⟨_, rfl⟩
  have HBW : Hid (Below w.heap.size w W) := by rw [← HWe.out]; exact alloc_below _ _
  have c0 : W.cell? ⟨w.heap.size, 0, none⟩ = some (.slice ao M cap) := by rw [← HWe.out]; exact box0 rfl
  have c1 : W.cell? ⟨w.heap.size, 1, none⟩ = some (.int .i64 n) := by rw [← HWe.out]; exact box0 rfl
  obtain ⟨T, HT⟩ : ∃ T, Hid (baL (toldL (wordE n) (p :: r)) = T) := ⟨_, rfl⟩
  have HC : Hid (TellC W v ao M cap n T) := by
    rw [← HT.out, ← HM.out]
    exact tellC n (p :: r) v ao cap W (hC.next HBW.out) (hP.next HBW.out) (keep_cell HBW.out hg) (tab_next ht HBW.out) h1 h2 hl hp
  have HE : Hid (ErrW W) := keep_cell HBW.out hg
  have hM0 : ((M : Int) == 0) = false := by have := HM.out; rw [List.length_cons] at this; simp; omega
  have hM1 : (0 : Int) < (M : Int) := by have := HM.out; rw [List.length_cons] at this; omega
  have hM2 : 0 < M := by omega
  rw [HM.out]
  obtain ⟨B, v', rfl, e0, e1, _, _⟩ := hC
  obtain ⟨b, o, rfl, d0, d1⟩ := hP 0 p rfl
  rw [Nat.zero_mul, Nat.add_zero] at d0 d1
  obtain ⟨p1, p2⟩ := p
  simp only at e0 e1 d0 d1
  obtain ⟨Q, HQ⟩ : ∃ Q, Hid (baL p1 = Q) := ⟨_, rfl⟩
  rw [HQ.out] at e0 d0
  have He : Hid (W.cell? ⟨B, 0, none⟩ = some (.string Q) ∧ W.cell? ⟨B, 1, none⟩ = some (.int .i64 p2) ∧ W.cell? ⟨b, o, none⟩ = some (.string Q) ∧ W.cell? ⟨b, o + 1, none⟩ = some (.int .i64 p2)) :=
    ⟨keep_cell HBW.out e0, keep_cell HBW.out e1, keep_cell HBW.out d0, keep_cell HBW.out d1⟩
  have hn0 : (n == 0) = false := by simp; omega
  have s0 : Below W.heap.size W W.drew := (Below.refl _ _).drew
  have s1 : W.heap.size ≤ W.drew.heap.size := Nat.le_refl _
  clear hP hg ht h1 h2 hl hp e0 e1 d0 d1 HT HM HQ
  go_enter Tryz.func11, Tryz.ntmps11
  go_wp2_with fail
  rw [HWe.out]
  go_wp2_with fail
  go_region_held3 (fun w' => w'.cell? ⟨w.heap.size, 0, none⟩ = some (.slice (some ⟨b, o, none⟩) M cap) ∧ w'.cell? ⟨w.heap.size, 1, none⟩ = some (.int .i64 n) ∧ Below W.heap.size W w' ∧ W.heap.size ≤ w'.heap.size)
    (((try dsimp only); go_split_ands; refine ⟨?_, ?_, ?_, ?_⟩ <;> first | assumption | exact keep_cell (by assumption) (by assumption) | exact below_next (by assumption) (by assumption) (by assumption) | exact le_next (by assumption) (by assumption)))
    (first
      | (go_at_call 41; go_split_ands; refine (HC.out.told _ (by assumption)).mono ?_; rintro e w' ⟨rfl, hb⟩)
      | (go_at_call 42; go_split_ands; refine (HC.out.rtold _ (by assumption)).mono ?_; rintro e w' ⟨rfl, hb⟩)
      | (go_at_call 43; go_split_ands; refine (HC.out.num _ (by assumption)).mono ?_; rintro e w' ⟨rfl, hb⟩)
      | (go_at_call 44; go_split_ands; refine (HC.out.is_ _ (by assumption)).mono ?_; rintro e w' ⟨rfl, hb⟩))
  all_goals
    go_split_ands
    have hbw : Below W.heap.size W w' := by assumption
    have m0 : w'.cell? ⟨w.heap.size, 0, none⟩ = some (.slice (some ⟨b, o, none⟩) M cap) := by assumption
    have z0 : (w'.alloc (.cells #[.pointer none] 104)).cell? ⟨w.heap.size, 0, none⟩ = some (.slice (some ⟨b, o, none⟩) M cap) := alloc_cell m0
    have hbX : Below w'.heap.size w' (w'.alloc (.cells #[.pointer none] 104)).drew := (alloc_below _ _).drew
    have hE : ErrW (w'.alloc (.cells #[.pointer none] 104)).drew := keep_cell hbX (keep_cell hbw HE.out)
    have hT : (w'.alloc (.cells #[.pointer none] 104)).drew.cell? ⟨w'.heap.size, 0, none⟩ = some (.pointer none) := box0 rfl
    have hF : (w'.alloc (.cells #[.pointer none] 104)).drew.frozen? ⟨w'.heap.size, 0, none⟩ = false := fresh_froz _ _ _ _
    go_wp2_with fail
    go_region_law (go_simp; go_at_call 45; refine (as_flt B _ _ hE hT hF).mono ?_; rintro e w2 ⟨rfl, x5, hb2⟩; have hb3 := hbX.trans hb2; have y0 := keep_cell hb3 m0; have y1 := keep_cell hb3 (keep_cell hbw He.out.1); have y2 := keep_cell hb3 (keep_cell hbw He.out.2.1); have y3 := keep_cell hb3 (keep_cell hbw He.out.2.2.1); have y4 := keep_cell hb3 (keep_cell hbw He.out.2.2.2))
    all_goals
      have HB3 : Hid (Below w.heap.size w w2) := next_trans HBW.out (next_trans hbw hb3)
      clear hb2 hb3
      go_wp2
      go_ret
      exact ⟨rfl, HB3.out⟩
end Go.Proofs.YtlniifheapoppaaGreatDoor
