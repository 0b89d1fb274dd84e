import Derived.Test.YtnhbjhdkpbhioaaGreatDoorG17
import Derived.Test.YtnhbjhdkpbhioaaGreatDoorG3
import Derived.Test.YtnhbjhdkpbhioaaGreatDoorG11
import Derived.Test.YtnhbjhdkpbhioaaGreatDoorG8
import Derived.Laws.AppendOwnNone
import Derived.Deep.RegionHeld3
namespace Go.Proofs.YtnhbjhdkpbhioaaGreatDoor
open Go.RowKit
def PtsAt (w : World) (ao : Option Addr) (ps : List Pt) : Prop := ∀ j p, ps[j]? = some p → ∃ b o, ao = some ⟨b, o, none⟩ ∧ w.cell? ⟨b, o + j * 2, none⟩ = some (.string (baL p.1)) ∧ w.cell? ⟨b, o + j * 2 + 1, none⟩ = some (.int .i64 p.2)
theorem PtsAt.next {w w' : World} {ao : Option Addr} {ps : List Pt} (h : PtsAt w ao ps) (hb : Below w.heap.size w w') : PtsAt w' ao ps := fun j p hj => by
  obtain ⟨b, o, h1, h2, h3⟩ := h j p hj
  exact ⟨b, o, h1, keep_cell hb h2, keep_cell hb h3⟩
theorem PtsAt.nil (w : World) (ao : Option Addr) : PtsAt w ao [] := fun j p hj => by simp at hj
theorem PtAt.pts {w : World} {b : Nat} {a : Int} (h : PtAt w b a) : PtsAt w (some ⟨b, 0, none⟩) [([99, 104, 97, 114], a)] := fun j p hj => by
  match j, hj with
  | 0, hj => simp at hj; subst hj; exact ⟨b, 0, rfl, h.1, h.2⟩
theorem told_app (S : List UInt8) : ∀ ps : List Pt, toldL S ps = toldL [] ps ++ S
  | [] => rfl
  | p :: r => by show ptL p ++ [58, 32] ++ toldL S r = ptL p ++ [58, 32] ++ toldL [] r ++ S; rw [told_app S r]; simp
theorem told_snoc (p : Pt) : ∀ ps : List Pt, toldL [] (ps ++ [p]) = toldL [] ps ++ p.1 ++ [32] ++ Lib.itoa p.2 ++ [58, 32]
  | [] => by show p.1 ++ [32] ++ Lib.itoa p.2 ++ [58, 32] ++ [] = _; simp [toldL]
  | q :: r => by show ptL q ++ [58, 32] ++ toldL [] (r ++ [p]) = ptL q ++ [58, 32] ++ toldL [] r ++ p.1 ++ [32] ++ Lib.itoa p.2 ++ [58, 32]; rw [told_snoc p r]; simp
theorem take_pt {L : List Pt} {k : Nat} {t : Pt} (h : L[k]? = some t) : L.take (k + 1) = L.take k ++ [t] := by
  rw [List.take_add_one, h]; rfl
set_option maxHeartbeats 8000000 in
set_option maxRecDepth 20000 in
theorem rtold_any (n : Int) (ps : List Pt) (ao : Option Addr) (cap : Nat) (w : World) (hP : PtsAt w ao ps) (h1 : 1 ≤ n) (h2 : n ≤ 11) (hl : ps.length ≤ 1000) (hp : ∀ p ∈ ps, p.1.length ≤ 1000 ∧ inB p.2 = true) :
    Calls Tryz.prog 52 #[.agg #[.slice ao ps.length cap, .int .i64 n]] w fun e w' => e = .returned (.string (baL (toldL (wordE n) ps))) ∧ Below w.heap.size w w' := by
  obtain ⟨R, HR⟩ : ∃ R, Hid (baL (toldL (wordE n) ps) = R) := ⟨_, rfl⟩
  rw [HR.out]
  obtain ⟨E, HE⟩ : ∃ E, Hid (baL (wordE n) = E) := ⟨_, rfl⟩
  have hEs : E.size ≤ 1000 := by
    rw [← HE.out, baL_size]
    rcases errno_cases h1 h2 with rfl | rfl | rfl | rfl | rfl | rfl | rfl | rfl | rfl | rfl | rfl <;> decide
  have HW : Hid (∀ w', Calls Tryz.prog 92 #[.int .i64 n] w' fun e w2 => e = .returned (.string E) ∧ Below w'.heap.size w' w2) := fun w' => by rw [← HE.out]; exact rword_any n w' h1 h2
  have hn0 : (n == 0) = false := by simp; omega
  have HPs : Hid (PtsAt w ao ps) := hP
  have HPb : Hid (∀ p ∈ ps, p.1.length ≤ 1000 ∧ inB p.2 = true) := hp
  obtain ⟨M, HM⟩ : ∃ M, Hid (ps.length = M) := ⟨_, rfl⟩
  rw [HM.out] at hl ⊢
  clear hP hp h1 h2
  go_enter Tryz.func52, Tryz.ntmps52
  go_wp2
  obtain ⟨W0, hW0⟩ : ∃ W0, w.alloc (.cells #[.slice ao M cap, .int .i64 n] 27) = W0 := ⟨_, rfl⟩
  have HB0 : Hid (Below w.heap.size w W0) := by rw [← hW0]; exact alloc_below _ _
  have HC0 : Hid (W0.cell? ⟨w.heap.size, 0, none⟩ = some (.slice ao M cap)) := by rw [← hW0]; exact box0 rfl
  have HC1 : Hid (W0.cell? ⟨w.heap.size, 1, none⟩ = some (.int .i64 n)) := by rw [← hW0]; exact box0 rfl
  rw [hW0]
  clear hW0
  go_loopw [3, 4] (fun t q wr => ∃ (j : Nat) (S : ByteArray), j ≤ M ∧ q = .int .i64 j ∧ t = .string S ∧ Hid (S = baL (toldL [] (ps.take j))) ∧ Hid (Below W0.heap.size W0 wr)) (fun _ q _ => M - (intOf q).toNat)
  case atStart => exact ⟨0, _, Nat.zero_le _, rfl, rfl, rfl, Below.refl _ _⟩
  case round =>
    obtain ⟨j, S, hj, rfl, rfl, HS, HB⟩ := hrel
    have HBr : Hid (Below w.heap.size w wr) := next_trans HB0.out HB.out
    have c0 := keep_cell HB.out HC0.out
    have c1 := keep_cell HB.out HC1.out
    have hSs : S.size ≤ 1100 * 1000 := by
      rw [HS.out, baL_size]
      have h3 := told_len [] (ps.take j) fun p h => HPb.out p (List.mem_of_mem_take h)
      rw [List.length_take] at h3
      have h4 : min j ps.length ≤ 1000 := by rw [HM.out]; omega
      have h5 : min j ps.length * 1100 ≤ 1000 * 1100 := Nat.mul_le_mul_right _ h4
      simp only [List.length_nil] at h3
      omega
    by_cases hlt : j < M
    · have hli : (j : Int) < (M : Int) := by omega
      have hl0 : (0 : Int) ≤ (j : Int) := by omega
      obtain ⟨p, hpj⟩ : ∃ p, ps[j]? = some p := ⟨_, List.getElem?_eq_getElem (by rw [HM.out]; exact hlt)⟩
      obtain ⟨b, o, rfl, d0, d1⟩ := (HPs.out.next HBr.out) j p hpj
      have hpp := HPb.out p (List.mem_of_getElem? hpj)
      have HTk : Hid (toldL [] (ps.take (j + 1)) = toldL [] (ps.take j) ++ p.1 ++ [32] ++ Lib.itoa p.2 ++ [58, 32]) := by rw [Hid, take_pt hpj]; exact told_snoc p _
      obtain ⟨p1, p2⟩ := p
      simp only at d0 d1 hpp HTk
      obtain ⟨Q, HQ⟩ : ∃ Q, Hid (baL p1 = Q) := ⟨_, rfl⟩
      obtain ⟨I, HI⟩ : ∃ I, Hid ((⟨(Lib.itoa p2).toArray⟩ : ByteArray) = I) := ⟨_, rfl⟩
      have hIs : I.size ≤ 21 := by rw [← HI.out]; exact itoa_len p2 hpp.2
      have hQs : Q.size ≤ 1000 := by rw [← HQ.out]; exact hpp.1
      rw [HQ.out] at d0
      have HT : Hid (∀ w', Calls Tryz.prog 91 #[.int .i64 p2] w' fun e w2 => e = .returned (.string I) ∧ Below w'.heap.size w' w2) := fun w' => by rw [← HI.out]; exact rtext_any p2 w' hpp.2
      have HNx : Hid (baL (toldL [] (ps.take (j + 1))) = S ++ Q ++ ⟨#[32]⟩ ++ I ++ ⟨#[58, 32]⟩) := by
        rw [Hid, HTk.out, HS.out, ← HQ.out, ← HI.out, show (⟨#[32]⟩ : ByteArray) = baL [32] from rfl, show (⟨#[58, 32]⟩ : ByteArray) = baL [58, 32] from rfl, baL_mk, baL_app, baL_app, baL_app, baL_app]
      have hn1 : ¬ 9223372036854775807 < S.size + Q.size := by omega
      have hn2 : ¬ 9223372036854775807 < S.size + Q.size + 1 := by omega
      have hn3 : ¬ 9223372036854775807 < S.size + Q.size + 1 + I.size := by omega
      have hn4 : ¬ 9223372036854775807 < S.size + Q.size + 1 + I.size + 2 := by omega
      have s0 : Below W0.heap.size W0 wr.drew := HB.out.drew
      have s1 : W0.heap.size ≤ wr.drew.heap.size := s0.size
      clear hpp hpj
      go_wp2_with fail
      go_region_held3 (fun w' => w'.cell? ⟨w.heap.size, 0, none⟩ = some (.slice (some ⟨b, o, none⟩) M cap) ∧ w'.cell? ⟨b, o + j * 2, none⟩ = some (.string Q) ∧ w'.cell? ⟨b, o + j * 2 + 1, none⟩ = some (.int .i64 p2) ∧ Below W0.heap.size W0 w' ∧ W0.heap.size ≤ w'.heap.size)
        (((try dsimp only); go_split_ands; refine ⟨?_, ?_, ?_, ?_, ?_⟩ <;> first | assumption | exact keep_cell (by assumption) (by assumption) | exact below_next (by assumption) (by assumption) (by assumption) | exact le_next (by assumption) (by assumption)))
        (first | (go_at_call 91; refine (HT.out _).mono ?_; rintro e w' ⟨rfl, hb⟩))
      all_goals
        go_split_ands
        go_wp2
        go_roundw
        case rel => exact ⟨j + 1, _, by omega, by go_num, rfl, HNx.out.symm, by rw [Hid]; assumption⟩
        case measure => simp [intOf]; omega
    · have hli : ¬ (j : Int) < (M : Int) := by omega
      have hfull : ps.take j = ps := List.take_of_length_le (by rw [HM.out]; omega)
      have HRR : Hid (S ++ E = R) := by
        rw [Hid, HS.out, hfull, ← HE.out, baL_app, ← told_app]; exact HR.out
      have hn1 : ¬ 9223372036854775807 < S.size + E.size := by omega
      clear hfull
      go_wp2_with fail
      refine (HW.out _).mono ?_
      rintro e w2 ⟨rfl, hb2⟩
      have HB2 : Hid (Below w.heap.size w w2) := next_trans HBr.out hb2
      clear hb2
      go_wp2
      go_ret
      exact ⟨ret_s HRR.out, HB2.out⟩
end Go.Proofs.YtnhbjhdkpbhioaaGreatDoor
namespace Go.Proofs.YtnhbjhdkpbhioaaGreatDoor
open Go.RowKit
set_option maxHeartbeats 4000000 in
set_option maxRecDepth 8000 in
theorem tells_nil (w : World) :
    Calls Tryz.prog 14 #[.nilIface, .agg #[.slice none 0 0, .int .i64 0]] w fun e w' => e = .returned (.bool true) ∧ Below w.heap.size w w' := by
  go_enter Tryz.func14, Tryz.ntmps14
  go_wp2
  go_ret
  exact ⟨rfl, alloc_below _ _⟩
structure TellC (W : World) (v : Value) (ao : Option Addr) (M cap : Nat) (n : Int) (T : ByteArray) : Prop where
  told : ∀ w', Below W.heap.size W w' → Calls Tryz.prog 51 #[v] w' fun e w2 => e = .returned (.string T) ∧ Below w'.heap.size w' w2
  rtold : ∀ w', Below W.heap.size W w' → Calls Tryz.prog 52 #[.agg #[.slice ao M cap, .int .i64 n]] w' fun e w2 => e = .returned (.string T) ∧ Below w'.heap.size w' w2
  num : ∀ w', Below W.heap.size W w' → Calls Tryz.prog 53 #[v] w' fun e w2 => e = .returned (.int .i64 n) ∧ Below w'.heap.size w' w2
  is_ : ∀ w', Below W.heap.size W w' → Calls Tryz.prog 54 #[v, .iface 118 (.int .i64 n)] w' fun e w2 => e = .returned (.bool true) ∧ Below w'.heap.size w' w2
theorem tellC (n : Int) (ps : List Pt) (v : Value) (ao : Option Addr) (cap : Nat) (W : World) (hC : Chain W n ps v) (hP : PtsAt W ao ps) (hg : ErrW W) (ht : TabW W) (h1 : 1 ≤ n) (h2 : n ≤ 11) (hl : ps.length ≤ 1000) (hp : ∀ p ∈ ps, p.1.length ≤ 1000 ∧ inB p.2 = true) :
    TellC W v ao ps.length cap n (baL (toldL (wordE n) ps)) :=
  ⟨fun w' h => told_chain n ps v w' (hC.next h) (keep_cell h hg) (tab_next ht h) h1 h2 hl hp,
   fun w' h => rtold_any n ps ao cap w' (hP.next h) h1 h2 hl hp,
   fun w' h => number_any n ps v w' (hC.next h) (keep_cell h hg),
   fun w' h => (is_any5 n ps v w' (hC.next h)).mono fun e w2 he => ⟨he.1, by rw [he.2]; exact Below.refl _ _⟩⟩
theorem as_flt (B T : Nat) (w : World) (hg : ErrW w) (ht : w.cell? ⟨T, 0, none⟩ = some (.pointer none)) (hf : w.frozen? ⟨T, 0, none⟩ = false) :
    Calls Tryz.prog 55 #[.iface 133 (.pointer (some ⟨B, 0, none⟩)), .iface 135 (.pointer (some ⟨T, 0, none⟩))] w fun e w' => e = .returned (.bool true) ∧ w'.cell? ⟨T, 0, none⟩ = some (.pointer (some ⟨B, 0, none⟩)) ∧ Below T w w' := by
  refine (as_hit ⟨B, 0, none⟩ ⟨T, 0, none⟩ (.pointer none) w hg ht hf).mono ?_
  rintro e w' ⟨rfl, rfl⟩
  exact ⟨rfl, as_self _ _ _ _ ht, as_below _ _ _ _ (Nat.le_of_lt (World.block_lt_of_cell? w ⟨T, 0, none⟩ ht)) (Nat.le_refl _)⟩
set_option maxHeartbeats 8000000 in
set_option maxRecDepth 20000 in
theorem tells_flt (n : Int) (p : Pt) (r : List Pt) (v : Value) (ao : Option Addr) (cap : Nat) (w : World) (hC : Chain w n (p :: r) v) (hP : PtsAt w ao (p :: r)) (hg : ErrW w) (ht : TabW w) (h1 : 1 ≤ n) (h2 : n ≤ 11) (hl : (p :: r).length ≤ 1000) (hp : ∀ q ∈ p :: r, q.1.length ≤ 1000 ∧ inB q.2 = true) :
    Calls Tryz.prog 14 #[v, .agg #[.slice ao (p :: r).length cap, .int .i64 n]] w fun e w' => e = .returned (.bool true) ∧ Below w.heap.size w w' := by
  obtain ⟨M, HM⟩ : ∃ M, Hid ((p :: r).length = M) := ⟨_, rfl⟩
  obtain ⟨W, HWe⟩ : ∃ W, Hid (w.alloc (.cells #[.slice ao M cap, .int .i64 n] 27) = W) := ⟨_, rfl⟩
  have HBW : Hid (Below w.heap.size w W) := by rw [← HWe.out]; exact alloc_below _ _
  have c0 : W.cell? ⟨w.heap.size, 0, none⟩ = some (.slice ao M cap) := by rw [← HWe.out]; exact box0 rfl
  have c1 : W.cell? ⟨w.heap.size, 1, none⟩ = some (.int .i64 n) := by rw [← HWe.out]; exact box0 rfl
  obtain ⟨T, HT⟩ : ∃ T, Hid (baL (toldL (wordE n) (p :: r)) = T) := ⟨_, rfl⟩
  have HC : Hid (TellC W v ao M cap n T) := by
    rw [← HT.out, ← HM.out]
    exact tellC n (p :: r) v ao cap W (hC.next HBW.out) (hP.next HBW.out) (keep_cell HBW.out hg) (tab_next ht HBW.out) h1 h2 hl hp
  have HE : Hid (ErrW W) := keep_cell HBW.out hg
  have hM0 : ((M : Int) == 0) = false := by have := HM.out; rw [List.length_cons] at this; simp; omega
  have hM1 : (0 : Int) < (M : Int) := by have := HM.out; rw [List.length_cons] at this; omega
  have hM2 : 0 < M := by omega
  rw [HM.out]
  obtain ⟨B, v', rfl, e0, e1, _, _⟩ := hC
  obtain ⟨b, o, rfl, d0, d1⟩ := hP 0 p rfl
  rw [Nat.zero_mul, Nat.add_zero] at d0 d1
  obtain ⟨p1, p2⟩ := p
  simp only at e0 e1 d0 d1
  obtain ⟨Q, HQ⟩ : ∃ Q, Hid (baL p1 = Q) := ⟨_, rfl⟩
  rw [HQ.out] at e0 d0
  have He : Hid (W.cell? ⟨B, 0, none⟩ = some (.string Q) ∧ W.cell? ⟨B, 1, none⟩ = some (.int .i64 p2) ∧ W.cell? ⟨b, o, none⟩ = some (.string Q) ∧ W.cell? ⟨b, o + 1, none⟩ = some (.int .i64 p2)) :=
    ⟨keep_cell HBW.out e0, keep_cell HBW.out e1, keep_cell HBW.out d0, keep_cell HBW.out d1⟩
  have hn0 : (n == 0) = false := by simp; omega
  have s0 : Below W.heap.size W W.drew := (Below.refl _ _).drew
  have s1 : W.heap.size ≤ W.drew.heap.size := Nat.le_refl _
  clear hP hg ht h1 h2 hl hp e0 e1 d0 d1 HT HM HQ
  go_enter Tryz.func14, Tryz.ntmps14
  go_wp2_with fail
  rw [HWe.out]
  go_wp2_with fail
  go_region_held3 (fun w' => w'.cell? ⟨w.heap.size, 0, none⟩ = some (.slice (some ⟨b, o, none⟩) M cap) ∧ w'.cell? ⟨w.heap.size, 1, none⟩ = some (.int .i64 n) ∧ Below W.heap.size W w' ∧ W.heap.size ≤ w'.heap.size)
    (((try dsimp only); go_split_ands; refine ⟨?_, ?_, ?_, ?_⟩ <;> first | assumption | exact keep_cell (by assumption) (by assumption) | exact below_next (by assumption) (by assumption) (by assumption) | exact le_next (by assumption) (by assumption)))
    (first
      | (go_at_call 51; go_split_ands; refine (HC.out.told _ (by assumption)).mono ?_; rintro e w' ⟨rfl, hb⟩)
      | (go_at_call 52; go_split_ands; refine (HC.out.rtold _ (by assumption)).mono ?_; rintro e w' ⟨rfl, hb⟩)
      | (go_at_call 53; go_split_ands; refine (HC.out.num _ (by assumption)).mono ?_; rintro e w' ⟨rfl, hb⟩)
      | (go_at_call 54; go_split_ands; refine (HC.out.is_ _ (by assumption)).mono ?_; rintro e w' ⟨rfl, hb⟩))
  all_goals
    go_split_ands
    have hbw : Below W.heap.size W w' := by assumption
    have m0 : w'.cell? ⟨w.heap.size, 0, none⟩ = some (.slice (some ⟨b, o, none⟩) M cap) := by assumption
    have z0 : (w'.alloc (.cells #[.pointer none] 133)).cell? ⟨w.heap.size, 0, none⟩ = some (.slice (some ⟨b, o, none⟩) M cap) := alloc_cell m0
    have hbX : Below w'.heap.size w' (w'.alloc (.cells #[.pointer none] 133)).drew := (alloc_below _ _).drew
    have hE : ErrW (w'.alloc (.cells #[.pointer none] 133)).drew := keep_cell hbX (keep_cell hbw HE.out)
    have hT : (w'.alloc (.cells #[.pointer none] 133)).drew.cell? ⟨w'.heap.size, 0, none⟩ = some (.pointer none) := box0 rfl
    have hF : (w'.alloc (.cells #[.pointer none] 133)).drew.frozen? ⟨w'.heap.size, 0, none⟩ = false := fresh_froz _ _ _ _
    go_wp2_with fail
    go_region_law (go_simp; go_at_call 55; refine (as_flt B _ _ hE hT hF).mono ?_; rintro e w2 ⟨rfl, x5, hb2⟩; have hb3 := hbX.trans hb2; have y0 := keep_cell hb3 m0; have y1 := keep_cell hb3 (keep_cell hbw He.out.1); have y2 := keep_cell hb3 (keep_cell hbw He.out.2.1); have y3 := keep_cell hb3 (keep_cell hbw He.out.2.2.1); have y4 := keep_cell hb3 (keep_cell hbw He.out.2.2.2))
    all_goals
      have HB3 : Hid (Below w.heap.size w w2) := next_trans HBW.out (next_trans hbw hb3)
      clear hb2 hb3
      go_wp2
      go_ret
      exact ⟨rfl, HB3.out⟩
end Go.Proofs.YtnhbjhdkpbhioaaGreatDoor
