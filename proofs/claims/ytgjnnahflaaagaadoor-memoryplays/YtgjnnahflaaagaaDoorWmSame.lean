/- The law's Same: rows of the same facts are the same. -/
import Derived.Test.YtgjnnahflaaagaaDoorWmLof
namespace Go.Proofs.YtgjnnahflaaagaaDoor
open Go.RowKit Go.Maps

/-- Facts lie from an address on. -/
def FtsA (w : World) (ao : Option Addr) (F : List Ft) : Prop :=
  ∀ (j : Nat) (f : Ft), F[j]? = some f → ∃ b o, ao = some ⟨b, o, none⟩ ∧ w.cell? ⟨b, o + j * 3, none⟩ = some (.int .i64 f.id) ∧ w.cell? ⟨b, o + j * 3 + 1, none⟩ = some (.string f.t) ∧ w.cell? ⟨b, o + j * 3 + 2, none⟩ = some (.slice f.a f.l.length f.c) ∧ IsVals w f.a f.l
theorem FtsA.next {w w' : World} {ao : Option Addr} {F : List Ft} (h : FtsA w ao F) (hb : Below w.heap.size w w') : FtsA w' ao F := by
  intro j f hj
  obtain ⟨b, o, h0, h1, h2, h3, h4⟩ := h j f hj
  exact ⟨b, o, h0, keep_cell hb h1, keep_cell hb h2, keep_cell hb h3, h4.next hb⟩
theorem Rw.fts {T : Nat} {w : World} {B n cap : Nat} {ao : Option Addr} {F : List Ft} (h : Rw T w B (.slice ao n cap) F) : FtsA w ao F := by
  intro j f hj
  obtain ⟨g, e, h1, h2, h3⟩ := h.at hj
  exact ⟨g, 0, e, by rw [Nat.zero_add]; exact h1, by rw [Nat.zero_add]; exact h2, by rw [Nat.zero_add]; exact h3, (h.vals f (List.mem_of_getElem? hj)).vals⟩

set_option maxHeartbeats 8000000 in
set_option maxRecDepth 8000 in
theorem same_yes (w : World) (N ca cb : Nat) (ao bo : Option Addr) (A C : List Ft) (hA : FtsA w ao A) (hC : FtsA w bo C) (hN : A.length = N) (he : A.map Ft.fc = C.map Ft.fc) (hl : ∀ f ∈ A, f.l.length ≤ 50) (hn : N ≤ 5000) :
    Calls Tryd.prog 17 #[.slice ao N ca, .slice bo N cb] w fun e w' => e = .returned (.bool true) ∧ Below w.heap.size w w' := by
  have HA : Hid (∀ w', Below w.heap.size w w' → FtsA w' ao A) := fun w' hb => hA.next hb
  have HC : Hid (∀ w', Below w.heap.size w w' → FtsA w' bo C) := fun w' hb => hC.next hb
  have HN : Hid (A.length = N) := hN
  have HE : Hid (A.map Ft.fc = C.map Ft.fc) := he
  have HL : Hid (∀ f ∈ A, f.l.length ≤ 50) := hl
  clear hA hC hN he hl
  go_enter Tryd.func17, Tryd.ntmps17
  go_wp2
  go_loopw [5] (fun i wr => ∃ k : Nat, k ≤ N ∧ i = .int .i64 k ∧ Hid (Below w.heap.size w wr)) (fun i _ => N - (intOf i).toNat)
  case atStart => exact ⟨0, Nat.zero_le _, rfl, Below.refl _ _⟩
  case round =>
    obtain ⟨k, hk, rfl, HW⟩ := hrel
    by_cases hlt : k < N
    · have hki : (k : Int) < (N : Int) := by omega
      have hk0 : (0 : Int) ≤ (k : Int) := by omega
      obtain ⟨f, HF⟩ : ∃ f, Hid (A[k]? = some f) := ⟨_, List.getElem?_eq_getElem (by rw [HN.out]; exact hlt)⟩
      obtain ⟨g, hg, hfg⟩ := like_get HE.out HF.out
      obtain ⟨b1, o1, rfl, c0, c1, c2, hv1⟩ := HA.out wr HW.out k f HF.out
      obtain ⟨b2, o2, rfl, e0, e1, e2, hv2⟩ := HC.out wr HW.out k g hg
      have hi1 : g.id = f.id := congrArg Prod.fst hfg
      have hi2 : g.t = f.t := congrArg (fun x => x.2.1) hfg
      have hi3 : g.l = f.l := congrArg (fun x => x.2.2) hfg
      rw [hi1] at e0
      rw [hi2] at e1
      rw [hi3] at e2 hv2
      have hll := HL.out f (List.mem_of_getElem? HF.out)
      obtain ⟨fid, ft, fl, fn, fa, fc, ga, gc, hfe⟩ : ∃ (fid : Int) (ft : ByteArray) (fl : List Val) (fn : Nat) (fa : Option Addr) (fc : Nat) (ga : Option Addr) (gc : Nat), Hid ((f.id : Int) = fid ∧ f.t = ft ∧ f.l = fl ∧ fl.length = fn ∧ f.a = fa ∧ f.c = fc ∧ g.a = ga ∧ g.c = gc) := ⟨_, _, _, _, _, _, _, _, rfl, rfl, rfl, rfl, rfl, rfl, rfl, rfl⟩
      rw [hfe.out.1] at c0 e0
      rw [hfe.out.2.1] at c1 e1
      rw [hfe.out.2.2.1, hfe.out.2.2.2.1] at c2 e2
      rw [hfe.out.2.2.2.2.1, hfe.out.2.2.2.2.2.1] at c2
      rw [hfe.out.2.2.2.2.2.2.1, hfe.out.2.2.2.2.2.2.2] at e2
      rw [hfe.out.2.2.1] at hv1 hv2 hll
      rw [hfe.out.2.2.2.2.1] at hv1
      rw [hfe.out.2.2.2.2.2.2.1] at hv2
      have HRw : Hid (∀ w', Below wr.heap.size wr w' → Calls Tryd.prog 10 #[.slice fa fn fc, .slice ga fn gc] w' fun e w2 => e = .returned (.bool true) ∧ Below w'.heap.size w' w2) := by
        intro w' hb
        have h := rows_any fa ga fc gc fl fl w' (hv1.next hb) (hv2.next hb) (by omega)
        rw [rows_yes rfl, hfe.out.2.2.2.1] at h
        exact h
      have hq : (ft.toList == ft.toList) = true := by simp
      have HB0 : Hid (Below w.heap.size w wr.drew) := HW.out.drew
      clear hg hfg hi1 hi2 hi3 hll hv1 hv2
      go_wp2
      go_region_held3 (fun w' => w'.cell? ⟨b1, o1 + k * 3, none⟩ = some (.int .i64 fid) ∧ w'.cell? ⟨b1, o1 + k * 3 + 1, none⟩ = some (.string ft) ∧ w'.cell? ⟨b1, o1 + k * 3 + 2, none⟩ = some (.slice fa fn fc) ∧ w'.cell? ⟨b2, o2 + k * 3, none⟩ = some (.int .i64 fid) ∧ w'.cell? ⟨b2, o2 + k * 3 + 1, none⟩ = some (.string ft) ∧ w'.cell? ⟨b2, o2 + k * 3 + 2, none⟩ = some (.slice ga fn gc))
        (((try dsimp only); go_split_ands; refine ⟨?_, ?_, ?_, ?_, ?_, ?_⟩ <;> first | assumption | exact keep_cell (by assumption) (by assumption)))
        (first | (go_at_call 10; refine (HRw.out _ (Below.refl _ _).drew).mono ?_; rintro e w3 ⟨rfl, hb3⟩; have HW3 : Hid (Below w.heap.size w w3) := next_trans HB0.out hb3; have hb4 := hb3))
      clear hb3 hb4 c0 c1 c2 e0 e1 e2 HRw
      go_wp2
      go_roundw
      case rel => exact ⟨k + 1, by omega, by go_num, HW3⟩
      case measure => simp [intOf]; omega
    · have hki : ¬ (k : Int) < (N : Int) := by omega
      go_wp2
      go_ret
      exact ⟨rfl, HW.out⟩
end Go.Proofs.YtgjnnahflaaagaaDoor
