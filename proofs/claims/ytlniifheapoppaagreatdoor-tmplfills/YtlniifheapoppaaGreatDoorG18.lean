/- The reference's Told, In; Told of nothing, of a chain, of an error that is none of ours. -/
import Derived.Laws.AppendOwnNone
import Derived.Deep.RegionHeld3
import Derived.Test.YtlniifheapoppaaGreatDoorG17
import Derived.Test.YtlniifheapoppaaGreatDoorG3
import Derived.Test.YtlniifheapoppaaGreatDoorG11
import Derived.Test.YtlniifheapoppaaGreatDoorG8
namespace Go.Proofs.YtlniifheapoppaaGreatDoor
open Go.RowKit

/-- Parts in memory. -/
def PtsAt (w : World) (ao : Option Addr) (ps : List Pt) : Prop := ∀ j p, ps[j]? = some p → ∃ b o, ao = some ⟨b, o, none⟩ ∧ w.cell? ⟨b, o + j * 2, none⟩ = some (.string (baL p.1)) ∧ w.cell? ⟨b, o + j * 2 + 1, none⟩ = some (.int .i64 p.2)
theorem PtsAt.next {w w' : World} {ao : Option Addr} {ps : List Pt} (h : PtsAt w ao ps) (hb : Below w.heap.size w w') : PtsAt w' ao ps := fun j p hj => by
  obtain ⟨b, o, h1, h2, h3⟩ := h j p hj
  exact ⟨b, o, h1, keep_cell hb h2, keep_cell hb h3⟩
theorem PtsAt.nil (w : World) (ao : Option Addr) : PtsAt w ao [] := fun j p hj => by simp at hj
theorem PtAt.pts {w : World} {b : Nat} {a : Int} (h : PtAt w b a) : PtsAt w (some ⟨b, 0, none⟩) [([99, 104, 97, 114], a)] := fun j p hj => by
  match j, hj with
  | 0, hj => simp at hj; subst hj; exact ⟨b, 0, rfl, h.1, h.2⟩
theorem told_app (S : List UInt8) : ∀ ps : List Pt, toldL S ps = toldL [] ps ++ S
  | [] => rfl
  | p :: r => by show ptL p ++ [58, 32] ++ toldL S r = ptL p ++ [58, 32] ++ toldL [] r ++ S; rw [told_app S r]; simp
theorem told_snoc (p : Pt) : ∀ ps : List Pt, toldL [] (ps ++ [p]) = toldL [] ps ++ p.1 ++ [32] ++ Lib.itoa p.2 ++ [58, 32]
  | [] => by show p.1 ++ [32] ++ Lib.itoa p.2 ++ [58, 32] ++ [] = _; simp [toldL]
  | q :: r => by show ptL q ++ [58, 32] ++ toldL [] (r ++ [p]) = ptL q ++ [58, 32] ++ toldL [] r ++ p.1 ++ [32] ++ Lib.itoa p.2 ++ [58, 32]; rw [told_snoc p r]; simp
theorem take_pt {L : List Pt} {k : Nat} {t : Pt} (h : L[k]? = some t) : L.take (k + 1) = L.take k ++ [t] := by
  rw [List.take_add_one, h]; rfl

set_option maxHeartbeats 8000000 in
set_option maxRecDepth 20000 in
theorem rtold_any (n : Int) (ps : List Pt) (ao : Option Addr) (cap : Nat) (w : World) (hP : PtsAt w ao ps) (h1 : 1 ≤ n) (h2 : n ≤ 11) (hl : ps.length ≤ 1000) (hp : ∀ p ∈ ps, p.1.length ≤ 1000 ∧ inB p.2 = true) :
    Calls Tryz.prog 42 #[.agg #[.slice ao ps.length cap, .int .i64 n]] w fun e w' => e = .returned (.string (baL (toldL (wordE n) ps))) ∧ Below w.heap.size w w' := by
  obtain ⟨R, HR⟩ : ∃ R, Hid (baL (toldL (wordE n) ps) = R) := ⟨_, rfl⟩
  rw [HR.out]
  obtain ⟨E, HE⟩ : ∃ E, Hid (baL (wordE n) = E) := ⟨_, rfl⟩
  have hEs : E.size ≤ 1000 := by
    rw [← HE.out, baL_size]
    rcases errno_cases h1 h2 with rfl | rfl | rfl | rfl | rfl | rfl | rfl | rfl | rfl | rfl | rfl <;> decide
  have HW : Hid (∀ w', Calls Tryz.prog 74 #[.int .i64 n] w' fun e w2 => e = .returned (.string E) ∧ Below w'.heap.size w' w2) := fun w' => by rw [← HE.out]; exact rword_any n w' h1 h2
  have hn0 : (n == 0) = false := by simp; omega
  have HPs : Hid (PtsAt w ao ps) := hP
  have HPb : Hid (∀ p ∈ ps, p.1.length ≤ 1000 ∧ inB p.2 = true) := hp
  obtain ⟨M, HM⟩ : ∃ M, Hid (ps.length = M) := ⟨_, rfl⟩
  rw [HM.out] at hl ⊢
  clear hP hp h1 h2
  go_enter Tryz.func42, Tryz.ntmps42
  go_wp2
  obtain ⟨W0, hW0⟩ : ∃ W0, w.alloc (.cells #[.slice ao M cap, .int .i64 n] 27) = W0 := ⟨_, rfl⟩
  have HB0 : Hid (Below w.heap.size w W0) := by rw [← hW0]; exact alloc_below _ _
  have HC0 : Hid (W0.cell? ⟨w.heap.size, 0, none⟩ = some (.slice ao M cap)) := by rw [← hW0]; exact box0 rfl
  have HC1 : Hid (W0.cell? ⟨w.heap.size, 1, none⟩ = some (.int .i64 n)) := by rw [← hW0]; exact box0 rfl
  rw [hW0]
  clear hW0
  go_loopw [3, 4] (fun t q wr => ∃ (j : Nat) (S : ByteArray), j ≤ M ∧ q = .int .i64 j ∧ t = .string S ∧ Hid (S = baL (toldL [] (ps.take j))) ∧ Hid (Below W0.heap.size W0 wr)) (fun _ q _ => M - (intOf q).toNat)
  case atStart => exact ⟨0, _, Nat.zero_le _, rfl, rfl, rfl, Below.refl _ _⟩
  case round =>
    obtain ⟨j, S, hj, rfl, rfl, HS, HB⟩ := hrel
    have HBr : Hid (Below w.heap.size w wr) := next_trans HB0.out HB.out
    have c0 := keep_cell HB.out HC0.out
    have c1 := keep_cell HB.out HC1.out
    have hSs : S.size ≤ 1100 * 1000 := by
      rw [HS.out, baL_size]
      have h3 := told_len [] (ps.take j) fun p h => HPb.out p (List.mem_of_mem_take h)
      rw [List.length_take] at h3
      have h4 : min j ps.length ≤ 1000 := by rw [HM.out]; omega
      have h5 : min j ps.length * 1100 ≤ 1000 * 1100 := Nat.mul_le_mul_right _ h4
      simp only [List.length_nil] at h3
      omega
    by_cases hlt : j < M
    · have hli : (j : Int) < (M : Int) := by omega
      have hl0 : (0 : Int) ≤ (j : Int) := by omega
      obtain ⟨p, hpj⟩ : ∃ p, ps[j]? = some p := ⟨_, List.getElem?_eq_getElem (by rw [HM.out]; exact hlt)⟩
      obtain ⟨b, o, rfl, d0, d1⟩ := (HPs.out.next HBr.out) j p hpj
      have hpp := HPb.out p (List.mem_of_getElem? hpj)
      have HTk : Hid (toldL [] (ps.take (j + 1)) = toldL [] (ps.take j) ++ p.1 ++ [32] ++ Lib.itoa p.2 ++ [58, 32]) := by rw [Hid, take_pt hpj]; exact told_snoc p _
      obtain ⟨p1, p2⟩ := p
      simp only at d0 d1 hpp HTk
      obtain ⟨Q, HQ⟩ : ∃ Q, Hid (baL p1 = Q) := ⟨_, rfl⟩
      obtain ⟨I, HI⟩ : ∃ I, Hid ((⟨(Lib.itoa p2).toArray⟩ : ByteArray) = I) := ⟨_, rfl⟩
      have hIs : I.size ≤ 21 := by rw [← HI.out]; exact itoa_len p2 hpp.2
      have hQs : Q.size ≤ 1000 := by rw [← HQ.out]; exact hpp.1
      rw [HQ.out] at d0
      have HT : Hid (∀ w', Calls Tryz.prog 73 #[.int .i64 p2] w' fun e w2 => e = .returned (.string I) ∧ Below w'.heap.size w' w2) := fun w' => by rw [← HI.out]; exact rtext_any p2 w' hpp.2
      have HNx : Hid (baL (toldL [] (ps.take (j + 1))) = S ++ Q ++ ⟨#[32]⟩ ++ I ++ ⟨#[58, 32]⟩) := by
        rw [Hid, HTk.out, HS.out, ← HQ.out, ← HI.out, show (⟨#[32]⟩ : ByteArray) = baL [32] from rfl, show (⟨#[58, 32]⟩ : ByteArray) = baL [58, 32] from rfl, baL_mk, baL_app, baL_app, baL_app, baL_app]
      have hn1 : ¬ 9223372036854775807 < S.size + Q.size := by omega
      have hn2 : ¬ 9223372036854775807 < S.size + Q.size + 1 := by omega
      have hn3 : ¬ 9223372036854775807 < S.size + Q.size + 1 + I.size := by omega
      have hn4 : ¬ 9223372036854775807 < S.size + Q.size + 1 + I.size + 2 := by omega
      have s0 : Below W0.heap.size W0 wr.drew := HB.out.drew
      have s1 : W0.heap.size ≤ wr.drew.heap.size := s0.size
      clear hpp hpj
      go_wp2_with fail
      go_region_held3 (fun w' => w'.cell? ⟨w.heap.size, 0, none⟩ = some (.slice (some ⟨b, o, none⟩) M cap) ∧ w'.cell? ⟨b, o + j * 2, none⟩ = some (.string Q) ∧ w'.cell? ⟨b, o + j * 2 + 1, none⟩ = some (.int .i64 p2) ∧ Below W0.heap.size W0 w' ∧ W0.heap.size ≤ w'.heap.size)
        (((try dsimp only); go_split_ands; refine ⟨?_, ?_, ?_, ?_, ?_⟩ <;> first | assumption | exact keep_cell (by assumption) (by assumption) | exact below_next (by assumption) (by assumption) (by assumption) | exact le_next (by assumption) (by assumption)))
        (first | (go_at_call 73; refine (HT.out _).mono ?_; rintro e w' ⟨rfl, hb⟩))
      all_goals
        go_split_ands
        go_wp2
        go_roundw
        case rel => exact ⟨j + 1, _, by omega, by go_num, rfl, HNx.out.symm, by rw [Hid]; assumption⟩
        case measure => simp [intOf]; omega
    · have hli : ¬ (j : Int) < (M : Int) := by omega
      have hfull : ps.take j = ps := List.take_of_length_le (by rw [HM.out]; omega)
      have HRR : Hid (S ++ E = R) := by
        rw [Hid, HS.out, hfull, ← HE.out, baL_app, ← told_app]; exact HR.out
      have hn1 : ¬ 9223372036854775807 < S.size + E.size := by omega
      clear hfull
      go_wp2_with fail
      refine (HW.out _).mono ?_
      rintro e w2 ⟨rfl, hb2⟩
      have HB2 : Hid (Below w.heap.size w w2) := next_trans HBr.out hb2
      clear hb2
      go_wp2
      go_ret
      exact ⟨ret_s HRR.out, HB2.out⟩
end Go.Proofs.YtlniifheapoppaaGreatDoor
