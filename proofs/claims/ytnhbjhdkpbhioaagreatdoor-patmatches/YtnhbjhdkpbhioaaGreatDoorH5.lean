import Derived.Test.YtnhbjhdkpbhioaaGreatDoorPtRow
import Derived.Deep.RegionHeld3
import Derived.Deep.AppendLies
import Derived.Test.YtnhbjhdkpbhioaaGreatDoorG3
namespace Go.Proofs.YtnhbjhdkpbhioaaGreatDoor
open Go.RowKit
theorem own_bds {w : World} {B T : Nat} {ro : Option Addr} {k rc : Nat} {L : List Sl} (hn : L.length = k) (h : w.ownsRow B T 4 (.slice ro k rc) k (slsC L)) : IsSls w ro L ∧ (ro = none → k = 0 ∧ rc = 0) := by
  obtain ⟨a, c, e, h1, _⟩ := own_sls hn h
  cases e
  refine ⟨h1, fun e => ?_⟩
  rcases h.2 with ⟨e2, h0⟩ | ⟨g, cap, cur, e2, _⟩
  · cases e2; exact ⟨rfl, rfl⟩
  · cases e2; cases e
set_option linter.unusedSimpArgs false in
set_option maxHeartbeats 8000000 in
set_option maxRecDepth 8000 in
theorem rbinds_any (L : List Sl) (N : Nat) (ao : Option Addr) (cap : Nat) (w : World) (hL : L.length = N) (hN : N ≤ 1000) (h : IsSls w ao L) :
    Calls Tryz.prog 31 #[.slice ao N cap] w fun e w' => (∃ ro rc, e = .returned (.slice ro N rc) ∧ IsSls w' ro L ∧ (ro = none → N = 0 ∧ rc = 0)) ∧ Below w.heap.size w w' := by
  have HL : Hid (L.length = N) := hL
  have HI : Hid (IsSls w ao L) := h
  have H0 : Hid (w.ownsRow w.heap.size 158 4 (.slice none 0 0) 0 (slsC (L.take 0))) := World.ownsRow_nil _ _ _ _
  clear h hL
  go_enter Tryz.func31, Tryz.ntmps31
  go_wp2
  go_loopw [3, 4] (fun l q wr => ∃ (k : Nat) (ro : Option Addr) (rc : Nat), k ≤ N ∧ q = .int .i64 k ∧ l = .slice ro k rc ∧ Hid (Below w.heap.size w wr) ∧ Hid (wr.ownsRow w.heap.size 158 4 (.slice ro k rc) k (slsC (L.take k)))) (fun _ q _ => N - (intOf q).toNat)
  case atStart => exact ⟨0, none, 0, Nat.zero_le _, rfl, rfl, Below.refl _ _, H0⟩
  case round =>
    obtain ⟨k, ro, rc, hk, rfl, rfl, HB, HO⟩ := hrel
    clear H0
    by_cases hlt : k < N
    · have hki : (k : Int) < (N : Int) := by omega
      have hk0 : (0 : Int) ≤ (k : Int) := by omega
      obtain ⟨s, hs⟩ : ∃ s, L[k]? = some s := ⟨_, List.getElem?_eq_getElem (by rw [HL.out]; exact hlt)⟩
      have HKs : Hid (slsC (L.take k) ++ sC s = slsC (L.take (k + 1))) := by
        obtain ⟨hk', e⟩ := List.getElem?_eq_some_iff.1 hs
        rw [Hid, slsC_snoc, List.take_succ_eq_append_getElem hk', e]
      have hin0 : ∀ b o, ao = some ⟨b, o, none⟩ → b < w.heap.size := fun b o e => by
        obtain ⟨b', o', e', c0', _⟩ := HI.out k _ hs
        rw [e] at e'
        have e1 := Option.some.inj e'
        injection e1 with e2
        subst e2
        exact World.block_lt_of_cell? w ⟨b, _, none⟩ c0'
      obtain ⟨b, o, rfl, c0, c1, c2, c3⟩ := (HI.out.next HB.out) k s hs
      have hin : b < w.heap.size := hin0 b o rfl
      clear hin0
      obtain ⟨sn, sk, si, ss⟩ := s
      simp only at c0 c1 c2 c3
      have HOb : Hid (∀ j, (Value.slice ro k rc).ownBlock = some j → w.heap.size ≤ j ∧ j < wr.heap.size) := fun j hj => HO.out.lt j hj
      have hws : w.heap.size ≤ wr.heap.size := HB.out.size
      obtain ⟨i0, hi, hz0, hz1, hz2⟩ := infoRBd'
      clear hs
      go_wp2
      refine wp_region_held_drew (S := (fun w' => w'.cell? ⟨b, o + k * 4, none⟩ = some (.string sn) ∧ w'.cell? ⟨b, o + k * 4 + 1, none⟩ = some (.int .i64 sk) ∧ w'.cell? ⟨b, o + k * 4 + 2, none⟩ = some (.int .i64 si) ∧ w'.cell? ⟨b, o + k * 4 + 3, none⟩ = some (.string ss))) (by kernel_rfl) ?_ (fun hHeldA => ?_)
      · exact ⟨c0, c1, c2, c3⟩
      refine wpAnyH_take (i := 0) (oi := { dst := some 11, op := Op.move (Operand.tmp 3), type := 78, pos := "law.go:31", after := #[], guard := none }) (v := ?_) rfl (by kernel_rfl) (by kernel_rfl) (by kernel_rfl) (fun _ _ _ h => h) (Or.inl ⟨by rfl, ?hyA0⟩) (by assumption) ?_
      case hyA0 => (intro w hSw; (try dsimp only at hSw); go_simp; try with_reducible rfl)
      (try simp only [Act.put, List.setIfInBounds_toArray, List.set_cons_zero, List.set_cons_succ])
      refine wpAnyH_take (i := 1) (oi := { dst := some 12, op := Op.move (Operand.tmp 0), type := 67, pos := "law.go:31", after := #[], guard := none }) (v := ?_) rfl (by kernel_rfl) (by kernel_rfl) (by kernel_rfl) (fun _ _ _ h => h) (Or.inl ⟨by rfl, ?hyA1⟩) (by assumption) ?_
      case hyA1 => (intro w hSw; (try dsimp only at hSw); go_simp; try with_reducible rfl)
      (try simp only [Act.put, List.setIfInBounds_toArray, List.set_cons_zero, List.set_cons_succ])
      refine wpAnyH_take (i := 2) (oi := { dst := some 13, op := Op.move (Operand.tmp 4), type := 3, pos := "law.go:31", after := #[], guard := none }) (v := ?_) rfl (by kernel_rfl) (by kernel_rfl) (by kernel_rfl) (fun _ _ _ h => h) (Or.inl ⟨by rfl, ?hyA2⟩) (by assumption) ?_
      case hyA2 => (intro w hSw; (try dsimp only at hSw); go_simp; try with_reducible rfl)
      (try simp only [Act.put, List.setIfInBounds_toArray, List.set_cons_zero, List.set_cons_succ])
      refine wpAnyH_take (i := 3) (oi := { dst := some 14, op := Op.indexAddr 67 (Operand.tmp 12) (Operand.tmp 13), type := 0, pos := "law.go:31", after := #[{ on := 1, ground := Ground.data }, { on := 2, ground := Ground.data }], guard := none }) (v := ?_) rfl (by kernel_rfl) (by kernel_rfl) (by kernel_rfl) (fun _ _ _ h => h) (Or.inl ⟨by rfl, ?hyA3⟩) (by assumption) ?_
      case hyA3 => (intro w hSw; (try dsimp only at hSw); go_simp; try with_reducible rfl)
      (try simp only [Act.put, List.setIfInBounds_toArray, List.set_cons_zero, List.set_cons_succ])
      refine wpAnyH_take (i := 4) (oi := { dst := some 15, op := Op.fieldAddr 91 (Operand.tmp 14) 0, type := 0, pos := "law.go:31", after := #[{ on := 3, ground := Ground.data }], guard := none }) (v := ?_) rfl (by kernel_rfl) (by kernel_rfl) (by kernel_rfl) (fun _ _ _ h => h) (Or.inl ⟨by rfl, ?hyA4⟩) (by assumption) ?_
      case hyA4 => (intro w hSw; (try dsimp only at hSw); go_simp; try with_reducible rfl)
      (try simp only [Act.put, List.setIfInBounds_toArray, List.set_cons_zero, List.set_cons_succ])
      refine wpAnyH_take (i := 5) (oi := { dst := some 16, op := Op.load 9 (Operand.tmp 15), type := 9, pos := "law.go:31", after := #[{ on := 4, ground := Ground.data }], guard := none }) (v := ?_) rfl (by kernel_rfl) (by kernel_rfl) (by kernel_rfl) (fun _ _ _ h => h) (Or.inl ⟨by rfl, ?hyA5⟩) (by assumption) ?_
      case hyA5 => (intro w hSw; (try dsimp only at hSw); go_simp; try with_reducible rfl)
      (try simp only [Act.put, List.setIfInBounds_toArray, List.set_cons_zero, List.set_cons_succ])
      refine wpAnyH_take (i := 6) (oi := { dst := some 17, op := Op.move (Operand.tmp 0), type := 67, pos := "law.go:31", after := #[], guard := none }) (v := ?_) rfl (by kernel_rfl) (by kernel_rfl) (by kernel_rfl) (fun _ _ _ h => h) (Or.inl ⟨by rfl, ?hyA6⟩) (by assumption) ?_
      case hyA6 => (intro w hSw; (try dsimp only at hSw); go_simp; try with_reducible rfl)
      (try simp only [Act.put, List.setIfInBounds_toArray, List.set_cons_zero, List.set_cons_succ])
      refine wpAnyH_take (i := 7) (oi := { dst := some 18, op := Op.move (Operand.tmp 4), type := 3, pos := "law.go:31", after := #[], guard := none }) (v := ?_) rfl (by kernel_rfl) (by kernel_rfl) (by kernel_rfl) (fun _ _ _ h => h) (Or.inl ⟨by rfl, ?hyA7⟩) (by assumption) ?_
      case hyA7 => (intro w hSw; (try dsimp only at hSw); go_simp; try with_reducible rfl)
      (try simp only [Act.put, List.setIfInBounds_toArray, List.set_cons_zero, List.set_cons_succ])
      refine wpAnyH_take (i := 8) (oi := { dst := some 19, op := Op.indexAddr 67 (Operand.tmp 17) (Operand.tmp 18), type := 0, pos := "law.go:31", after := #[{ on := 6, ground := Ground.data }, { on := 7, ground := Ground.data }], guard := none }) (v := ?_) rfl (by kernel_rfl) (by kernel_rfl) (by kernel_rfl) (fun _ _ _ h => h) (Or.inl ⟨by rfl, ?hyA8⟩) (by assumption) ?_
      case hyA8 => (intro w hSw; (try dsimp only at hSw); go_simp; try with_reducible rfl)
      (try simp only [Act.put, List.setIfInBounds_toArray, List.set_cons_zero, List.set_cons_succ])
      refine wpAnyH_take (i := 9) (oi := { dst := some 20, op := Op.fieldAddr 91 (Operand.tmp 19) 1, type := 0, pos := "law.go:31", after := #[{ on := 8, ground := Ground.data }], guard := none }) (v := ?_) rfl (by kernel_rfl) (by kernel_rfl) (by kernel_rfl) (fun _ _ _ h => h) (Or.inl ⟨by rfl, ?hyA9⟩) (by assumption) ?_
      case hyA9 => (intro w hSw; (try dsimp only at hSw); go_simp; try with_reducible rfl)
      (try simp only [Act.put, List.setIfInBounds_toArray, List.set_cons_zero, List.set_cons_succ])
      refine wpAnyH_take (i := 10) (oi := { dst := some 21, op := Op.load 71 (Operand.tmp 20), type := 71, pos := "law.go:31", after := #[{ on := 9, ground := Ground.data }], guard := none }) (v := ?_) rfl (by kernel_rfl) (by kernel_rfl) (by kernel_rfl) (fun _ _ _ h => h) (Or.inl ⟨by rfl, ?hyA10⟩) (by assumption) ?_
      case hyA10 => (intro w hSw; (try dsimp only at hSw); go_simp; try with_reducible rfl)
      (try simp only [Act.put, List.setIfInBounds_toArray, List.set_cons_zero, List.set_cons_succ])
      refine wpAnyH_take (i := 11) (oi := { dst := some 22, op := Op.build 158 #[(0, Operand.tmp 16), (1, Operand.tmp 21)], type := 158, pos := "law.go:31", after := #[{ on := 5, ground := Ground.data }, { on := 10, ground := Ground.data }], guard := none }) (v := ?_) rfl (by kernel_rfl) (by kernel_rfl) (by kernel_rfl) (fun _ _ _ h => h) (Or.inl ⟨by rfl, ?hyA11⟩) (by assumption) ?_
      case hyA11 => (intro w hSw; (try dsimp only at hSw); go_simp; try with_reducible rfl)
      (try simp only [Act.put, List.setIfInBounds_toArray, List.set_cons_zero, List.set_cons_succ])
      refine wpAnyH_ready (rs := [12]) (by kernel_rfl) (by simp) ?_
      refine AllReadyH.cons (o := { dst := some 23, op := Op.buildSlice 78 1 #[(0, Operand.tmp 22)], type := 78, pos := "law.go:31", after := #[{ on := 11, ground := Ground.data }], guard := none }) rfl (fun K hK => ?_) AllReadyH.nil
      go_simp
      refine hK.out _ _ ?_ (fun hHeldAm => ?_)
      · exact ⟨alloc_cell hHeldA.1, alloc_cell hHeldA.2.1, alloc_cell hHeldA.2.2.1, alloc_cell hHeldA.2.2.2⟩
      clear hK K hHeldA
      (try simp only [Act.put, List.setIfInBounds_toArray, List.set_cons_zero, List.set_cons_succ])
      refine wpAnyH_ready (rs := [13]) (by kernel_rfl) (by simp) ?_
      refine AllReadyH.cons (o := { dst := some 24, op := Op.call { callee := Callee.builtin Builtin.append, args := #[Operand.tmp 11, Operand.tmp 23], argTypes := #[78, 78] }, type := 78, pos := "law.go:31", after := #[{ on := 0, ground := Ground.data }, { on := 12, ground := Ground.data }], guard := none }) rfl (fun K hK => ?_) AllReadyH.nil
      refine step_append_lies _ (by rfl) _ _ _ (by rfl) w.heap.size 158 i0 zeroSl 4 48 Tryz.underlying78 hi hz0 hz1 hz2 rfl (by decide) (.slice ro k rc) k (slsC (L.take k)) (by rfl) ((HO.out.drew).alloc _) ⟨wr.heap.size, 0, none⟩ 1 1 [.string sn, .int .i64 sk, .int .i64 si, .string ss] (by rfl) (by rfl) (World.news_of_block (cs := #[.string sn, .int .i64 sk, .int .i64 si, .string ss]) (t := 158) (fr := (0, 0)) (heap_alloc_new wr.drew _)) (by simp [Value.oneCell']) (by decide) (by unfold maxLen; omega) (by omega) (by simp; omega) (wr.heap.size + 1) (by simp) ?_
      intro gk gcap w3 hown hgrow hat3 hlt3
      have q0 := hgrow.cell (hHeldAm.1) (fun e => by have h9 := (HOb.out _ e.symm).1; have h8 := hin; simp only at h9 h8; omega)
      have q1 := hgrow.cell (hHeldAm.2.1) (fun e => by have h9 := (HOb.out _ e.symm).1; have h8 := hin; simp only at h9 h8; omega)
      have q2 := hgrow.cell (hHeldAm.2.2.1) (fun e => by have h9 := (HOb.out _ e.symm).1; have h8 := hin; simp only at h9 h8; omega)
      have q3 := hgrow.cell (hHeldAm.2.2.2) (fun e => by have h9 := (HOb.out _ e.symm).1; have h8 := hin; simp only at h9 h8; omega)
      refine hK.out _ _ ?_ (fun hL9 => ?_)
      · exact ⟨q0, q1, q2, q3⟩
      clear hK K
      (try simp only [Act.put, List.setIfInBounds_toArray, List.set_cons_zero, List.set_cons_succ])
      refine wpAnyH_take (i := 14) (oi := { dst := some 3, op := Op.assign (Operand.tmp 24), type := 78, pos := "law.go:31", after := #[{ on := 13, ground := Ground.data }, { on := 13, ground := Ground.chain }, { on := 0, ground := Ground.phase }, { on := 1, ground := Ground.phase }, { on := 2, ground := Ground.phase }, { on := 3, ground := Ground.phase }, { on := 4, ground := Ground.phase }, { on := 5, ground := Ground.phase }, { on := 6, ground := Ground.phase }, { on := 7, ground := Ground.phase }, { on := 8, ground := Ground.phase }, { on := 9, ground := Ground.phase }, { on := 10, ground := Ground.phase }, { on := 11, ground := Ground.phase }, { on := 12, ground := Ground.phase }, { on := 13, ground := Ground.phase }], guard := none }) (v := ?_) rfl (by kernel_rfl) (by kernel_rfl) (by kernel_rfl) (fun _ _ _ h => h) (Or.inl ⟨by rfl, ?hyA14⟩) (by assumption) ?_
      case hyA14 => (intro w hSw; (try dsimp only at hSw); go_simp; try with_reducible rfl)
      (try simp only [Act.put, List.setIfInBounds_toArray, List.set_cons_zero, List.set_cons_succ])
      refine wpAnyH_done (by kernel_rfl) ?_ _
      have HO3 : Hid (w3.ownsRow w.heap.size 158 4 (.slice (some ⟨gk, 0, none⟩) (k + 1) gcap) (k + 1) (slsC (L.take (k + 1)))) := by rw [← HKs.out]; exact hown
      have HB3 : Hid (Below w.heap.size w w3) := by
        refine HB.out.trans (((below_drawn (Below.refl _ wr) 1).alloc hws _).grown hgrow (by simp; omega) (fun j hj => ?_))
        exact (HOb.out j hj).1
      clear hown hgrow hat3 hlt3 q0 q1 q2 q3 HB HO HOb c0 c1 c2 c3 hws hL9 HKs hi hz0 hz1 hz2
      go_wp2
      go_roundw
      case rel => exact ⟨k + 1, _, gcap, by omega, by go_num, rfl, HB3, HO3⟩
      case measure => simp [intOf]; omega
    · have hki : ¬ (k : Int) < (N : Int) := by omega
      obtain rfl : k = N := by omega
      have HE : Hid (L.take k = L) := List.take_of_length_le (by rw [HL.out]; exact Nat.le_refl _)
      rw [HE.out] at HO
      have HF : Hid (IsSls wr ro L ∧ (ro = none → k = 0 ∧ rc = 0)) := own_bds HL.out HO.out
      clear HO HE
      go_wp2
      go_ret
      exact ⟨⟨ro, rc, rfl, HF.out.1, HF.out.2⟩, HB.out⟩
end Go.Proofs.YtnhbjhdkpbhioaaGreatDoor
namespace Go.Proofs.YtnhbjhdkpbhioaaGreatDoor
open Go.RowKit
structure Fq where
  i : Int
  t : ByteArray
  o : Option Addr
  n : Nat
  c : Nat
def fqC (s : Fq) : List Value := [.int .i64 s.i, .string s.t, .slice s.o s.n s.c]
def fqsC (L : List Fq) : List Value := L.flatMap fqC
theorem fqsC_cons (a : Fq) (r : List Fq) : fqsC (a :: r) = fqC a ++ fqsC r := by unfold fqsC; rw [List.flatMap_cons]
theorem fqsC_snoc (L : List Fq) (q : Fq) : fqsC L ++ fqC q = fqsC (L ++ [q]) := by unfold fqsC; rw [List.flatMap_append]; simp
theorem fqs_at : ∀ (L : List Fq) (j r : Nat) (q : Fq), L[j]? = some q → r < 3 → (fqsC L)[j * 3 + r]? = (fqC q)[r]?
  | [], j, r, q, h, _ => by simp at h
  | x :: l, 0, r, q, h, hr => by
    simp at h; subst h
    rw [Nat.zero_mul, Nat.zero_add]
    rw [fqsC_cons, List.getElem?_append_left (by show r < 3; exact hr)]
  | x :: l, j + 1, r, q, h, hr => by
    rw [List.getElem?_cons_succ] at h
    rw [fqsC_cons, List.getElem?_append_right (by show 3 ≤ _; omega)]
    show (fqsC l)[(j + 1) * 3 + r - 3]? = _
    rw [show (j + 1) * 3 + r - 3 = j * 3 + r by omega]
    exact fqs_at l j r q h hr
def IsFqs (w : World) (ao : Option Addr) (L : List Fq) : Prop := ∀ (j : Nat) (s : Fq), L[j]? = some s → ∃ b o, ao = some ⟨b, o, none⟩ ∧ w.cell? ⟨b, o + j * 3, none⟩ = some (.int .i64 s.i) ∧ w.cell? ⟨b, o + j * 3 + 1, none⟩ = some (.string s.t) ∧ w.cell? ⟨b, o + j * 3 + 2, none⟩ = some (.slice s.o s.n s.c)
theorem IsFqs.next {w w' : World} {ao : Option Addr} {L : List Fq} (h : IsFqs w ao L) (hb : Below w.heap.size w w') : IsFqs w' ao L := by
  intro j v hj
  obtain ⟨b, o, h0, h1, h2, h3⟩ := h j v hj
  exact ⟨b, o, h0, keep_cell hb h1, keep_cell hb h2, keep_cell hb h3⟩
theorem own_fqs {w : World} {B T : Nat} {ro : Option Addr} {k rc : Nat} {L : List Fq} (hn : L.length = k) (h : w.ownsRow B T 3 (.slice ro k rc) k (fqsC L)) : IsFqs w ro L ∧ (ro = none → k = 0 ∧ rc = 0) := by
  rcases h.2 with ⟨e, h0⟩ | ⟨g, cap, cur, e, _⟩
  · cases e
    have e : L = [] := List.eq_nil_of_length_eq_zero (hn.trans h0)
    subst e
    exact ⟨fun j t hj => by simp at hj, fun _ => ⟨h0, rfl⟩⟩
  · cases e
    refine ⟨fun j t hj => ⟨g, 0, rfl, ?_⟩, fun e => by cases e⟩
    have hjl : j < L.length := (List.getElem?_eq_some_iff.1 hj).1
    have hc : ∀ q, q < 3 → w.cell? ⟨g, j * 3 + q, none⟩ = (fqC t)[q]? := fun q hq => by
      rw [h.cellAt (j * 3 + q) (by omega), fqs_at L j q t hj hq]
    rw [Nat.zero_add]
    exact ⟨hc 0 (by omega), hc 1 (by omega), hc 2 (by omega)⟩
def zeroFq : Value := .agg #[.int .i64 0, .string ⟨#[]⟩, .slice none 0 0]
theorem infoFq : (Tryz.prog.info? 81).map (fun i => (i.zero, i.size, i.bytes)) = some (some zeroFq, 3, 48) := by kernel_rfl
theorem infoFq' : ∃ i, Tryz.prog.info? 81 = some i ∧ i.zero = some zeroFq ∧ i.size = 3 ∧ i.bytes = 48 := by
  obtain ⟨i, h, e⟩ := Option.map_eq_some_iff.1 infoFq
  simp only [Prod.mk.injEq] at e
  exact ⟨i, h, e.1, e.2.1, e.2.2⟩
set_option linter.unusedSimpArgs false in
set_option maxHeartbeats 8000000 in
set_option maxRecDepth 8000 in
theorem rfacts_any (L : List Fq) (N : Nat) (ao : Option Addr) (cap : Nat) (w : World) (hL : L.length = N) (hN : N ≤ 1000) (h : IsFqs w ao L) :
    Calls Tryz.prog 28 #[.slice ao N cap] w fun e w' => (∃ ro rc, e = .returned (.slice ro N rc) ∧ IsFqs w' ro L ∧ (ro = none → N = 0 ∧ rc = 0)) ∧ Below w.heap.size w w' := by
  have HL : Hid (L.length = N) := hL
  have HI : Hid (IsFqs w ao L) := h
  have H0 : Hid (w.ownsRow w.heap.size 81 3 (.slice none 0 0) 0 (fqsC (L.take 0))) := World.ownsRow_nil _ _ _ _
  clear h hL
  go_enter Tryz.func28, Tryz.ntmps28
  go_wp2
  go_loopw [3, 4] (fun l q wr => ∃ (k : Nat) (ro : Option Addr) (rc : Nat), k ≤ N ∧ q = .int .i64 k ∧ l = .slice ro k rc ∧ Hid (Below w.heap.size w wr) ∧ Hid (wr.ownsRow w.heap.size 81 3 (.slice ro k rc) k (fqsC (L.take k)))) (fun _ q _ => N - (intOf q).toNat)
  case atStart => exact ⟨0, none, 0, Nat.zero_le _, rfl, rfl, Below.refl _ _, H0⟩
  case round =>
    obtain ⟨k, ro, rc, hk, rfl, rfl, HB, HO⟩ := hrel
    clear H0
    by_cases hlt : k < N
    · have hki : (k : Int) < (N : Int) := by omega
      have hk0 : (0 : Int) ≤ (k : Int) := by omega
      obtain ⟨s, hs⟩ : ∃ s, L[k]? = some s := ⟨_, List.getElem?_eq_getElem (by rw [HL.out]; exact hlt)⟩
      have HKs : Hid (fqsC (L.take k) ++ fqC s = fqsC (L.take (k + 1))) := by
        obtain ⟨hk', e⟩ := List.getElem?_eq_some_iff.1 hs
        rw [Hid, fqsC_snoc, List.take_succ_eq_append_getElem hk', e]
      have hin0 : ∀ b o, ao = some ⟨b, o, none⟩ → b < w.heap.size := fun b o e => by
        obtain ⟨b', o', e', c0', _⟩ := HI.out k _ hs
        rw [e] at e'
        have e1 := Option.some.inj e'
        injection e1 with e2
        subst e2
        exact World.block_lt_of_cell? w ⟨b, _, none⟩ c0'
      obtain ⟨b, o, rfl, c0, c1, c2⟩ := (HI.out.next HB.out) k s hs
      have hin : b < w.heap.size := hin0 b o rfl
      clear hin0
      obtain ⟨fi, ft, fo, fn, fc⟩ := s
      simp only at c0 c1 c2
      have HOb : Hid (∀ j, (Value.slice ro k rc).ownBlock = some j → w.heap.size ≤ j ∧ j < wr.heap.size) := fun j hj => HO.out.lt j hj
      have hws : w.heap.size ≤ wr.heap.size := HB.out.size
      obtain ⟨i0, hi, hz0, hz1, hz2⟩ := infoFq'
      clear hs
      go_wp2
      refine wp_region_held_drew (S := (fun w' => w'.cell? ⟨b, o + k * 3, none⟩ = some (.int .i64 fi) ∧ w'.cell? ⟨b, o + k * 3 + 1, none⟩ = some (.string ft) ∧ w'.cell? ⟨b, o + k * 3 + 2, none⟩ = some (.slice fo fn fc))) (by kernel_rfl) ?_ (fun hHeldA => ?_)
      · exact ⟨c0, c1, c2⟩
      refine wpAnyH_take (i := 0) (oi := { dst := some 11, op := Op.move (Operand.tmp 3), type := 73, pos := "law.go:29", after := #[], guard := none }) (v := ?_) rfl (by kernel_rfl) (by kernel_rfl) (by kernel_rfl) (fun _ _ _ h => h) (Or.inl ⟨by rfl, ?hyA0⟩) (by assumption) ?_
      case hyA0 => (intro w hSw; (try dsimp only at hSw); go_simp; try with_reducible rfl)
      (try simp only [Act.put, List.setIfInBounds_toArray, List.set_cons_zero, List.set_cons_succ])
      refine wpAnyH_take (i := 1) (oi := { dst := some 12, op := Op.move (Operand.tmp 0), type := 75, pos := "law.go:29", after := #[], guard := none }) (v := ?_) rfl (by kernel_rfl) (by kernel_rfl) (by kernel_rfl) (fun _ _ _ h => h) (Or.inl ⟨by rfl, ?hyA1⟩) (by assumption) ?_
      case hyA1 => (intro w hSw; (try dsimp only at hSw); go_simp; try with_reducible rfl)
      (try simp only [Act.put, List.setIfInBounds_toArray, List.set_cons_zero, List.set_cons_succ])
      refine wpAnyH_take (i := 2) (oi := { dst := some 13, op := Op.move (Operand.tmp 4), type := 3, pos := "law.go:29", after := #[], guard := none }) (v := ?_) rfl (by kernel_rfl) (by kernel_rfl) (by kernel_rfl) (fun _ _ _ h => h) (Or.inl ⟨by rfl, ?hyA2⟩) (by assumption) ?_
      case hyA2 => (intro w hSw; (try dsimp only at hSw); go_simp; try with_reducible rfl)
      (try simp only [Act.put, List.setIfInBounds_toArray, List.set_cons_zero, List.set_cons_succ])
      refine wpAnyH_take (i := 3) (oi := { dst := some 14, op := Op.indexAddr 75 (Operand.tmp 12) (Operand.tmp 13), type := 0, pos := "law.go:29", after := #[{ on := 1, ground := Ground.data }, { on := 2, ground := Ground.data }], guard := none }) (v := ?_) rfl (by kernel_rfl) (by kernel_rfl) (by kernel_rfl) (fun _ _ _ h => h) (Or.inl ⟨by rfl, ?hyA3⟩) (by assumption) ?_
      case hyA3 => (intro w hSw; (try dsimp only at hSw); go_simp; try with_reducible rfl)
      (try simp only [Act.put, List.setIfInBounds_toArray, List.set_cons_zero, List.set_cons_succ])
      refine wpAnyH_take (i := 4) (oi := { dst := some 15, op := Op.fieldAddr 66 (Operand.tmp 14) 0, type := 0, pos := "law.go:29", after := #[{ on := 3, ground := Ground.data }], guard := none }) (v := ?_) rfl (by kernel_rfl) (by kernel_rfl) (by kernel_rfl) (fun _ _ _ h => h) (Or.inl ⟨by rfl, ?hyA4⟩) (by assumption) ?_
      case hyA4 => (intro w hSw; (try dsimp only at hSw); go_simp; try with_reducible rfl)
      (try simp only [Act.put, List.setIfInBounds_toArray, List.set_cons_zero, List.set_cons_succ])
      refine wpAnyH_take (i := 5) (oi := { dst := some 16, op := Op.load 3 (Operand.tmp 15), type := 3, pos := "law.go:29", after := #[{ on := 4, ground := Ground.data }], guard := none }) (v := ?_) rfl (by kernel_rfl) (by kernel_rfl) (by kernel_rfl) (fun _ _ _ h => h) (Or.inl ⟨by rfl, ?hyA5⟩) (by assumption) ?_
      case hyA5 => (intro w hSw; (try dsimp only at hSw); go_simp; try with_reducible rfl)
      (try simp only [Act.put, List.setIfInBounds_toArray, List.set_cons_zero, List.set_cons_succ])
      refine wpAnyH_take (i := 6) (oi := { dst := some 17, op := Op.move (Operand.tmp 0), type := 75, pos := "law.go:29", after := #[], guard := none }) (v := ?_) rfl (by kernel_rfl) (by kernel_rfl) (by kernel_rfl) (fun _ _ _ h => h) (Or.inl ⟨by rfl, ?hyA6⟩) (by assumption) ?_
      case hyA6 => (intro w hSw; (try dsimp only at hSw); go_simp; try with_reducible rfl)
      (try simp only [Act.put, List.setIfInBounds_toArray, List.set_cons_zero, List.set_cons_succ])
      refine wpAnyH_take (i := 7) (oi := { dst := some 18, op := Op.move (Operand.tmp 4), type := 3, pos := "law.go:29", after := #[], guard := none }) (v := ?_) rfl (by kernel_rfl) (by kernel_rfl) (by kernel_rfl) (fun _ _ _ h => h) (Or.inl ⟨by rfl, ?hyA7⟩) (by assumption) ?_
      case hyA7 => (intro w hSw; (try dsimp only at hSw); go_simp; try with_reducible rfl)
      (try simp only [Act.put, List.setIfInBounds_toArray, List.set_cons_zero, List.set_cons_succ])
      refine wpAnyH_take (i := 8) (oi := { dst := some 19, op := Op.indexAddr 75 (Operand.tmp 17) (Operand.tmp 18), type := 0, pos := "law.go:29", after := #[{ on := 6, ground := Ground.data }, { on := 7, ground := Ground.data }], guard := none }) (v := ?_) rfl (by kernel_rfl) (by kernel_rfl) (by kernel_rfl) (fun _ _ _ h => h) (Or.inl ⟨by rfl, ?hyA8⟩) (by assumption) ?_
      case hyA8 => (intro w hSw; (try dsimp only at hSw); go_simp; try with_reducible rfl)
      (try simp only [Act.put, List.setIfInBounds_toArray, List.set_cons_zero, List.set_cons_succ])
      refine wpAnyH_take (i := 9) (oi := { dst := some 20, op := Op.fieldAddr 66 (Operand.tmp 19) 1, type := 0, pos := "law.go:29", after := #[{ on := 8, ground := Ground.data }], guard := none }) (v := ?_) rfl (by kernel_rfl) (by kernel_rfl) (by kernel_rfl) (fun _ _ _ h => h) (Or.inl ⟨by rfl, ?hyA9⟩) (by assumption) ?_
      case hyA9 => (intro w hSw; (try dsimp only at hSw); go_simp; try with_reducible rfl)
      (try simp only [Act.put, List.setIfInBounds_toArray, List.set_cons_zero, List.set_cons_succ])
      refine wpAnyH_take (i := 10) (oi := { dst := some 21, op := Op.load 9 (Operand.tmp 20), type := 9, pos := "law.go:29", after := #[{ on := 9, ground := Ground.data }], guard := none }) (v := ?_) rfl (by kernel_rfl) (by kernel_rfl) (by kernel_rfl) (fun _ _ _ h => h) (Or.inl ⟨by rfl, ?hyA10⟩) (by assumption) ?_
      case hyA10 => (intro w hSw; (try dsimp only at hSw); go_simp; try with_reducible rfl)
      (try simp only [Act.put, List.setIfInBounds_toArray, List.set_cons_zero, List.set_cons_succ])
      refine wpAnyH_take (i := 11) (oi := { dst := some 22, op := Op.move (Operand.tmp 0), type := 75, pos := "law.go:29", after := #[], guard := none }) (v := ?_) rfl (by kernel_rfl) (by kernel_rfl) (by kernel_rfl) (fun _ _ _ h => h) (Or.inl ⟨by rfl, ?hyA11⟩) (by assumption) ?_
      case hyA11 => (intro w hSw; (try dsimp only at hSw); go_simp; try with_reducible rfl)
      (try simp only [Act.put, List.setIfInBounds_toArray, List.set_cons_zero, List.set_cons_succ])
      refine wpAnyH_take (i := 12) (oi := { dst := some 23, op := Op.move (Operand.tmp 4), type := 3, pos := "law.go:29", after := #[], guard := none }) (v := ?_) rfl (by kernel_rfl) (by kernel_rfl) (by kernel_rfl) (fun _ _ _ h => h) (Or.inl ⟨by rfl, ?hyA12⟩) (by assumption) ?_
      case hyA12 => (intro w hSw; (try dsimp only at hSw); go_simp; try with_reducible rfl)
      (try simp only [Act.put, List.setIfInBounds_toArray, List.set_cons_zero, List.set_cons_succ])
      refine wpAnyH_take (i := 13) (oi := { dst := some 24, op := Op.indexAddr 75 (Operand.tmp 22) (Operand.tmp 23), type := 0, pos := "law.go:29", after := #[{ on := 11, ground := Ground.data }, { on := 12, ground := Ground.data }], guard := none }) (v := ?_) rfl (by kernel_rfl) (by kernel_rfl) (by kernel_rfl) (fun _ _ _ h => h) (Or.inl ⟨by rfl, ?hyA13⟩) (by assumption) ?_
      case hyA13 => (intro w hSw; (try dsimp only at hSw); go_simp; try with_reducible rfl)
      (try simp only [Act.put, List.setIfInBounds_toArray, List.set_cons_zero, List.set_cons_succ])
      refine wpAnyH_take (i := 14) (oi := { dst := some 25, op := Op.fieldAddr 66 (Operand.tmp 24) 2, type := 0, pos := "law.go:29", after := #[{ on := 13, ground := Ground.data }], guard := none }) (v := ?_) rfl (by kernel_rfl) (by kernel_rfl) (by kernel_rfl) (fun _ _ _ h => h) (Or.inl ⟨by rfl, ?hyA14⟩) (by assumption) ?_
      case hyA14 => (intro w hSw; (try dsimp only at hSw); go_simp; try with_reducible rfl)
      (try simp only [Act.put, List.setIfInBounds_toArray, List.set_cons_zero, List.set_cons_succ])
      refine wpAnyH_take (i := 15) (oi := { dst := some 26, op := Op.load 64 (Operand.tmp 25), type := 64, pos := "law.go:29", after := #[{ on := 14, ground := Ground.data }], guard := none }) (v := ?_) rfl (by kernel_rfl) (by kernel_rfl) (by kernel_rfl) (fun _ _ _ h => h) (Or.inl ⟨by rfl, ?hyA15⟩) (by assumption) ?_
      case hyA15 => (intro w hSw; (try dsimp only at hSw); go_simp; try with_reducible rfl)
      (try simp only [Act.put, List.setIfInBounds_toArray, List.set_cons_zero, List.set_cons_succ])
      refine wpAnyH_take (i := 16) (oi := { dst := some 27, op := Op.build 81 #[(0, Operand.tmp 16), (1, Operand.tmp 21), (2, Operand.tmp 26)], type := 81, pos := "law.go:29", after := #[{ on := 5, ground := Ground.data }, { on := 10, ground := Ground.data }, { on := 15, ground := Ground.data }], guard := none }) (v := ?_) rfl (by kernel_rfl) (by kernel_rfl) (by kernel_rfl) (fun _ _ _ h => h) (Or.inl ⟨by rfl, ?hyA16⟩) (by assumption) ?_
      case hyA16 => (intro w hSw; (try dsimp only at hSw); go_simp; try with_reducible rfl)
      (try simp only [Act.put, List.setIfInBounds_toArray, List.set_cons_zero, List.set_cons_succ])
      refine wpAnyH_ready (rs := [17]) (by kernel_rfl) (by simp) ?_
      refine AllReadyH.cons (o := { dst := some 28, op := Op.buildSlice 73 1 #[(0, Operand.tmp 27)], type := 73, pos := "law.go:29", after := #[{ on := 16, ground := Ground.data }], guard := none }) rfl (fun K hK => ?_) AllReadyH.nil
      go_simp
      refine hK.out _ _ ?_ (fun hHeldAm => ?_)
      · exact ⟨alloc_cell hHeldA.1, alloc_cell hHeldA.2.1, alloc_cell hHeldA.2.2⟩
      clear hK K hHeldA
      (try simp only [Act.put, List.setIfInBounds_toArray, List.set_cons_zero, List.set_cons_succ])
      refine wpAnyH_ready (rs := [18]) (by kernel_rfl) (by simp) ?_
      refine AllReadyH.cons (o := { dst := some 29, op := Op.call { callee := Callee.builtin Builtin.append, args := #[Operand.tmp 11, Operand.tmp 28], argTypes := #[73, 73] }, type := 73, pos := "law.go:29", after := #[{ on := 0, ground := Ground.data }, { on := 17, ground := Ground.data }], guard := none }) rfl (fun K hK => ?_) AllReadyH.nil
      refine step_append_lies _ (by rfl) _ _ _ (by rfl) w.heap.size 81 i0 zeroFq 3 48 Tryz.underlying73 hi hz0 hz1 hz2 rfl (by decide) (.slice ro k rc) k (fqsC (L.take k)) (by rfl) ((HO.out.drew).alloc _) ⟨wr.heap.size, 0, none⟩ 1 1 [.int .i64 fi, .string ft, .slice fo fn fc] (by rfl) (by rfl) (World.news_of_block (cs := #[.int .i64 fi, .string ft, .slice fo fn fc]) (t := 81) (fr := (0, 0)) (heap_alloc_new wr.drew _)) (by simp [Value.oneCell']) (by decide) (by unfold maxLen; omega) (by omega) (by simp; omega) (wr.heap.size + 1) (by simp) ?_
      intro gk gcap w3 hown hgrow hat3 hlt3
      have q0 := hgrow.cell (hHeldAm.1) (fun e => by have h9 := (HOb.out _ e.symm).1; have h8 := hin; simp only at h9 h8; omega)
      have q1 := hgrow.cell (hHeldAm.2.1) (fun e => by have h9 := (HOb.out _ e.symm).1; have h8 := hin; simp only at h9 h8; omega)
      have q2 := hgrow.cell (hHeldAm.2.2) (fun e => by have h9 := (HOb.out _ e.symm).1; have h8 := hin; simp only at h9 h8; omega)
      refine hK.out _ _ ?_ (fun hL9 => ?_)
      · exact ⟨q0, q1, q2⟩
      clear hK K
      (try simp only [Act.put, List.setIfInBounds_toArray, List.set_cons_zero, List.set_cons_succ])
      refine wpAnyH_take (i := 19) (oi := { dst := some 3, op := Op.assign (Operand.tmp 29), type := 73, pos := "law.go:29", after := #[{ on := 18, ground := Ground.data }, { on := 18, ground := Ground.chain }, { on := 0, ground := Ground.phase }, { on := 1, ground := Ground.phase }, { on := 2, ground := Ground.phase }, { on := 3, ground := Ground.phase }, { on := 4, ground := Ground.phase }, { on := 5, ground := Ground.phase }, { on := 6, ground := Ground.phase }, { on := 7, ground := Ground.phase }, { on := 8, ground := Ground.phase }, { on := 9, ground := Ground.phase }, { on := 10, ground := Ground.phase }, { on := 11, ground := Ground.phase }, { on := 12, ground := Ground.phase }, { on := 13, ground := Ground.phase }, { on := 14, ground := Ground.phase }, { on := 15, ground := Ground.phase }, { on := 16, ground := Ground.phase }, { on := 17, ground := Ground.phase }, { on := 18, ground := Ground.phase }], guard := none }) (v := ?_) rfl (by kernel_rfl) (by kernel_rfl) (by kernel_rfl) (fun _ _ _ h => h) (Or.inl ⟨by rfl, ?hyA19⟩) (by assumption) ?_
      case hyA19 => (intro w hSw; (try dsimp only at hSw); go_simp; try with_reducible rfl)
      (try simp only [Act.put, List.setIfInBounds_toArray, List.set_cons_zero, List.set_cons_succ])
      refine wpAnyH_done (by kernel_rfl) ?_ _
      have HO3 : Hid (w3.ownsRow w.heap.size 81 3 (.slice (some ⟨gk, 0, none⟩) (k + 1) gcap) (k + 1) (fqsC (L.take (k + 1)))) := by rw [← HKs.out]; exact hown
      have HB3 : Hid (Below w.heap.size w w3) := by
        refine HB.out.trans (((below_drawn (Below.refl _ wr) 1).alloc hws _).grown hgrow (by simp; omega) (fun j hj => ?_))
        exact (HOb.out j hj).1
      clear hown hgrow hat3 hlt3 q0 q1 q2 HB HO HOb c0 c1 c2 hws hL9 HKs hi hz0 hz1 hz2
      go_wp2
      go_roundw
      case rel => exact ⟨k + 1, _, gcap, by omega, by go_num, rfl, HB3, HO3⟩
      case measure => simp [intOf]; omega
    · have hki : ¬ (k : Int) < (N : Int) := by omega
      obtain rfl : k = N := by omega
      have HE : Hid (L.take k = L) := List.take_of_length_le (by rw [HL.out]; exact Nat.le_refl _)
      rw [HE.out] at HO
      have HF : Hid (IsFqs wr ro L ∧ (ro = none → k = 0 ∧ rc = 0)) := own_fqs HL.out HO.out
      clear HO HE
      go_wp2
      go_ret
      exact ⟨⟨ro, rc, rfl, HF.out.1, HF.out.2⟩, HB.out⟩
end Go.Proofs.YtnhbjhdkpbhioaaGreatDoor
namespace Go.Proofs.YtnhbjhdkpbhioaaGreatDoor
open Go.RowKit
set_option linter.unusedSimpArgs false in
set_option maxHeartbeats 8000000 in
set_option maxRecDepth 8000 in
theorem bsame8_any (L : List Sl) (N : Nat) (ao bo : Option Addr) (ca cb : Nat) (w : World) (hL : L.length = N) (hN : N ≤ 1000) (h : IsSls w ao L) (h2 : IsSls w bo L) :
    Calls Tryz.prog 32 #[.slice ao N ca, .slice bo N cb] w fun e w' => e = .returned (.bool true) ∧ Below w.heap.size w w' := by
  have HL : Hid (L.length = N) := hL
  have HI : Hid (IsSls w ao L) := h
  have HJ : Hid (IsSls w bo L) := h2
  have HSm : Hid (∀ (k i : Int) (s : ByteArray) (w : World), Calls Tryz.prog 56 #[.agg #[.int .i64 (k), .int .i64 (i), .string (s)], .agg #[.int .i64 (k), .int .i64 (i), .string (s)]] w fun e w' => e = .returned (.bool true) ∧ Below w.heap.size w w') := by
    intro k i s w
    have := rsame_any k i k i s s w
    rw [sameB_refl] at this
    exact this
  clear h h2 hL
  go_enter Tryz.func32, Tryz.ntmps32
  go_wp2
  go_loopw [5] (fun q wr => ∃ k : Nat, k ≤ N ∧ q = .int .i64 k ∧ Hid (Below w.heap.size w wr)) (fun q _ => N - (intOf q).toNat)
  case atStart => exact ⟨0, Nat.zero_le _, rfl, Below.refl _ _⟩
  case round =>
    obtain ⟨k, hk, rfl, HB⟩ := hrel
    by_cases hlt : k < N
    · have hki : (k : Int) < (N : Int) := by omega
      have hk0 : (0 : Int) ≤ (k : Int) := by omega
      obtain ⟨s, hs⟩ : ∃ s, L[k]? = some s := ⟨_, List.getElem?_eq_getElem (by rw [HL.out]; exact hlt)⟩
      obtain ⟨b, o, rfl, c0, c1, c2, c3⟩ := (HI.out.next HB.out) k s hs
      obtain ⟨d, p, rfl, d0, d1, d2, d3⟩ := (HJ.out.next HB.out) k s hs
      obtain ⟨sn, sk, si, ss⟩ := s
      simp only at c0 c1 c2 c3 d0 d1 d2 d3
      clear hs
      go_wp2
      refine wp_region_held_drew (S := (fun w' => w'.cell? ⟨b, o + k * 4, none⟩ = some (.string sn) ∧ w'.cell? ⟨b, o + k * 4 + 1, none⟩ = some (.int .i64 sk) ∧ w'.cell? ⟨b, o + k * 4 + 2, none⟩ = some (.int .i64 si) ∧ w'.cell? ⟨b, o + k * 4 + 3, none⟩ = some (.string ss) ∧ w'.cell? ⟨d, p + k * 4, none⟩ = some (.string sn) ∧ w'.cell? ⟨d, p + k * 4 + 1, none⟩ = some (.int .i64 sk) ∧ w'.cell? ⟨d, p + k * 4 + 2, none⟩ = some (.int .i64 si) ∧ w'.cell? ⟨d, p + k * 4 + 3, none⟩ = some (.string ss) ∧ Below wr.heap.size wr w' ∧ wr.heap.size ≤ w'.heap.size)) (by kernel_rfl) ?_ (fun hHeldA => ?_)
      · exact ⟨c0, c1, c2, c3, d0, d1, d2, d3, (Below.refl _ _).drew, (Below.refl wr.heap.size wr).drew.size⟩
      refine wpAnyH_take (i := 0) (oi := { dst := some 17, op := Op.move (Operand.tmp 0), type := 67, pos := "law.go:51", after := #[], guard := none }) (v := ?_) rfl (by kernel_rfl) (by kernel_rfl) (by kernel_rfl) (fun _ _ _ h => h) (Or.inl ⟨by rfl, ?hyA0⟩) (by assumption) ?_
      case hyA0 => (intro w hSw; (try dsimp only at hSw); go_simp; try with_reducible rfl)
      (try simp only [Act.put, List.setIfInBounds_toArray, List.set_cons_zero, List.set_cons_succ])
      refine wpAnyH_take (i := 1) (oi := { dst := some 18, op := Op.move (Operand.tmp 5), type := 3, pos := "law.go:51", after := #[], guard := none }) (v := ?_) rfl (by kernel_rfl) (by kernel_rfl) (by kernel_rfl) (fun _ _ _ h => h) (Or.inl ⟨by rfl, ?hyA1⟩) (by assumption) ?_
      case hyA1 => (intro w hSw; (try dsimp only at hSw); go_simp; try with_reducible rfl)
      (try simp only [Act.put, List.setIfInBounds_toArray, List.set_cons_zero, List.set_cons_succ])
      refine wpAnyH_take (i := 2) (oi := { dst := some 19, op := Op.indexAddr 67 (Operand.tmp 17) (Operand.tmp 18), type := 0, pos := "law.go:51", after := #[{ on := 0, ground := Ground.data }, { on := 1, ground := Ground.data }], guard := none }) (v := ?_) rfl (by kernel_rfl) (by kernel_rfl) (by kernel_rfl) (fun _ _ _ h => h) (Or.inl ⟨by rfl, ?hyA2⟩) (by assumption) ?_
      case hyA2 => (intro w hSw; (try dsimp only at hSw); go_simp; try with_reducible rfl)
      (try simp only [Act.put, List.setIfInBounds_toArray, List.set_cons_zero, List.set_cons_succ])
      refine wpAnyH_take (i := 3) (oi := { dst := some 20, op := Op.fieldAddr 91 (Operand.tmp 19) 0, type := 0, pos := "law.go:51", after := #[{ on := 2, ground := Ground.data }], guard := none }) (v := ?_) rfl (by kernel_rfl) (by kernel_rfl) (by kernel_rfl) (fun _ _ _ h => h) (Or.inl ⟨by rfl, ?hyA3⟩) (by assumption) ?_
      case hyA3 => (intro w hSw; (try dsimp only at hSw); go_simp; try with_reducible rfl)
      (try simp only [Act.put, List.setIfInBounds_toArray, List.set_cons_zero, List.set_cons_succ])
      refine wpAnyH_take (i := 4) (oi := { dst := some 21, op := Op.load 9 (Operand.tmp 20), type := 9, pos := "law.go:51", after := #[{ on := 3, ground := Ground.data }], guard := none }) (v := ?_) rfl (by kernel_rfl) (by kernel_rfl) (by kernel_rfl) (fun _ _ _ h => h) (Or.inl ⟨by rfl, ?hyA4⟩) (by assumption) ?_
      case hyA4 => (intro w hSw; (try dsimp only at hSw); go_simp; try with_reducible rfl)
      (try simp only [Act.put, List.setIfInBounds_toArray, List.set_cons_zero, List.set_cons_succ])
      refine wpAnyH_take (i := 5) (oi := { dst := some 22, op := Op.move (Operand.tmp 1), type := 78, pos := "law.go:51", after := #[], guard := none }) (v := ?_) rfl (by kernel_rfl) (by kernel_rfl) (by kernel_rfl) (fun _ _ _ h => h) (Or.inl ⟨by rfl, ?hyA5⟩) (by assumption) ?_
      case hyA5 => (intro w hSw; (try dsimp only at hSw); go_simp; try with_reducible rfl)
      (try simp only [Act.put, List.setIfInBounds_toArray, List.set_cons_zero, List.set_cons_succ])
      refine wpAnyH_take (i := 6) (oi := { dst := some 23, op := Op.move (Operand.tmp 5), type := 3, pos := "law.go:51", after := #[], guard := none }) (v := ?_) rfl (by kernel_rfl) (by kernel_rfl) (by kernel_rfl) (fun _ _ _ h => h) (Or.inl ⟨by rfl, ?hyA6⟩) (by assumption) ?_
      case hyA6 => (intro w hSw; (try dsimp only at hSw); go_simp; try with_reducible rfl)
      (try simp only [Act.put, List.setIfInBounds_toArray, List.set_cons_zero, List.set_cons_succ])
      refine wpAnyH_take (i := 7) (oi := { dst := some 24, op := Op.indexAddr 78 (Operand.tmp 22) (Operand.tmp 23), type := 0, pos := "law.go:51", after := #[{ on := 5, ground := Ground.data }, { on := 6, ground := Ground.data }], guard := none }) (v := ?_) rfl (by kernel_rfl) (by kernel_rfl) (by kernel_rfl) (fun _ _ _ h => h) (Or.inl ⟨by rfl, ?hyA7⟩) (by assumption) ?_
      case hyA7 => (intro w hSw; (try dsimp only at hSw); go_simp; try with_reducible rfl)
      (try simp only [Act.put, List.setIfInBounds_toArray, List.set_cons_zero, List.set_cons_succ])
      refine wpAnyH_take (i := 8) (oi := { dst := some 25, op := Op.fieldAddr 158 (Operand.tmp 24) 0, type := 0, pos := "law.go:51", after := #[{ on := 7, ground := Ground.data }], guard := none }) (v := ?_) rfl (by kernel_rfl) (by kernel_rfl) (by kernel_rfl) (fun _ _ _ h => h) (Or.inl ⟨by rfl, ?hyA8⟩) (by assumption) ?_
      case hyA8 => (intro w hSw; (try dsimp only at hSw); go_simp; try with_reducible rfl)
      (try simp only [Act.put, List.setIfInBounds_toArray, List.set_cons_zero, List.set_cons_succ])
      refine wpAnyH_take (i := 9) (oi := { dst := some 26, op := Op.load 9 (Operand.tmp 25), type := 9, pos := "law.go:51", after := #[{ on := 8, ground := Ground.data }], guard := none }) (v := ?_) rfl (by kernel_rfl) (by kernel_rfl) (by kernel_rfl) (fun _ _ _ h => h) (Or.inl ⟨by rfl, ?hyA9⟩) (by assumption) ?_
      case hyA9 => (intro w hSw; (try dsimp only at hSw); go_simp; try with_reducible rfl)
      (try simp only [Act.put, List.setIfInBounds_toArray, List.set_cons_zero, List.set_cons_succ])
      refine wpAnyH_take (i := 10) (oi := { dst := some 27, op := Op.binOp BinOp.neq 9 (Operand.tmp 21) (Operand.tmp 26) 9, type := 4, pos := "law.go:51", after := #[{ on := 4, ground := Ground.data }, { on := 9, ground := Ground.data }], guard := none }) (v := ?_) rfl (by kernel_rfl) (by kernel_rfl) (by kernel_rfl) (fun _ _ _ h => h) (Or.inl ⟨by rfl, ?hyA10⟩) (by assumption) ?_
      case hyA10 => (intro w hSw; (try dsimp only at hSw); go_simp; try with_reducible rfl)
      (try simp only [Act.put, List.setIfInBounds_toArray, List.set_cons_zero, List.set_cons_succ])
      refine wpAnyH_take (i := 11) (oi := { dst := some 28, op := Op.move (Operand.tmp 27), type := 4, pos := "law.go:51", after := #[{ on := 10, ground := Ground.data }], guard := none }) (v := ?_) rfl (by kernel_rfl) (by kernel_rfl) (by kernel_rfl) (fun _ _ _ h => h) (Or.inl ⟨by rfl, ?hyA11⟩) (by assumption) ?_
      case hyA11 => (intro w hSw; (try dsimp only at hSw); go_simp; try with_reducible rfl)
      (try simp only [Act.put, List.setIfInBounds_toArray, List.set_cons_zero, List.set_cons_succ])
      refine wpAnyH_take (i := 12) (oi := { dst := some 29, op := Op.move (Operand.tmp 0), type := 67, pos := "law.go:51", after := #[{ on := 11, ground := Ground.guard }], guard := some (11, false) }) (v := ?_) rfl (by kernel_rfl) (by kernel_rfl) (by kernel_rfl) (fun _ _ _ h => h) (Or.inl ⟨by rfl, ?hyA12⟩) (by assumption) ?_
      case hyA12 => (intro w hSw; (try dsimp only at hSw); go_simp; try with_reducible rfl)
      (try simp only [Act.put, List.setIfInBounds_toArray, List.set_cons_zero, List.set_cons_succ])
      refine wpAnyH_take (i := 13) (oi := { dst := some 30, op := Op.move (Operand.tmp 5), type := 3, pos := "law.go:51", after := #[{ on := 11, ground := Ground.guard }], guard := some (11, false) }) (v := ?_) rfl (by kernel_rfl) (by kernel_rfl) (by kernel_rfl) (fun _ _ _ h => h) (Or.inl ⟨by rfl, ?hyA13⟩) (by assumption) ?_
      case hyA13 => (intro w hSw; (try dsimp only at hSw); go_simp; try with_reducible rfl)
      (try simp only [Act.put, List.setIfInBounds_toArray, List.set_cons_zero, List.set_cons_succ])
      refine wpAnyH_take (i := 14) (oi := { dst := some 31, op := Op.indexAddr 67 (Operand.tmp 29) (Operand.tmp 30), type := 0, pos := "law.go:51", after := #[{ on := 12, ground := Ground.data }, { on := 13, ground := Ground.data }, { on := 11, ground := Ground.guard }], guard := some (11, false) }) (v := ?_) rfl (by kernel_rfl) (by kernel_rfl) (by kernel_rfl) (fun _ _ _ h => h) (Or.inl ⟨by rfl, ?hyA14⟩) (by assumption) ?_
      case hyA14 => (intro w hSw; (try dsimp only at hSw); go_simp; try with_reducible rfl)
      (try simp only [Act.put, List.setIfInBounds_toArray, List.set_cons_zero, List.set_cons_succ])
      refine wpAnyH_take (i := 15) (oi := { dst := some 32, op := Op.fieldAddr 91 (Operand.tmp 31) 1, type := 0, pos := "law.go:51", after := #[{ on := 14, ground := Ground.data }, { on := 11, ground := Ground.guard }], guard := some (11, false) }) (v := ?_) rfl (by kernel_rfl) (by kernel_rfl) (by kernel_rfl) (fun _ _ _ h => h) (Or.inl ⟨by rfl, ?hyA15⟩) (by assumption) ?_
      case hyA15 => (intro w hSw; (try dsimp only at hSw); go_simp; try with_reducible rfl)
      (try simp only [Act.put, List.setIfInBounds_toArray, List.set_cons_zero, List.set_cons_succ])
      refine wpAnyH_take (i := 16) (oi := { dst := some 33, op := Op.load 71 (Operand.tmp 32), type := 71, pos := "law.go:51", after := #[{ on := 15, ground := Ground.data }, { on := 11, ground := Ground.guard }], guard := some (11, false) }) (v := ?_) rfl (by kernel_rfl) (by kernel_rfl) (by kernel_rfl) (fun _ _ _ h => h) (Or.inl ⟨by rfl, ?hyA16⟩) (by assumption) ?_
      case hyA16 => (intro w hSw; (try dsimp only at hSw); go_simp; try with_reducible rfl)
      (try simp only [Act.put, List.setIfInBounds_toArray, List.set_cons_zero, List.set_cons_succ])
      refine wpAnyH_take (i := 17) (oi := { dst := some 34, op := Op.move (Operand.tmp 1), type := 78, pos := "law.go:51", after := #[{ on := 11, ground := Ground.guard }], guard := some (11, false) }) (v := ?_) rfl (by kernel_rfl) (by kernel_rfl) (by kernel_rfl) (fun _ _ _ h => h) (Or.inl ⟨by rfl, ?hyA17⟩) (by assumption) ?_
      case hyA17 => (intro w hSw; (try dsimp only at hSw); go_simp; try with_reducible rfl)
      (try simp only [Act.put, List.setIfInBounds_toArray, List.set_cons_zero, List.set_cons_succ])
      refine wpAnyH_take (i := 18) (oi := { dst := some 35, op := Op.move (Operand.tmp 5), type := 3, pos := "law.go:51", after := #[{ on := 11, ground := Ground.guard }], guard := some (11, false) }) (v := ?_) rfl (by kernel_rfl) (by kernel_rfl) (by kernel_rfl) (fun _ _ _ h => h) (Or.inl ⟨by rfl, ?hyA18⟩) (by assumption) ?_
      case hyA18 => (intro w hSw; (try dsimp only at hSw); go_simp; try with_reducible rfl)
      (try simp only [Act.put, List.setIfInBounds_toArray, List.set_cons_zero, List.set_cons_succ])
      refine wpAnyH_take (i := 19) (oi := { dst := some 36, op := Op.indexAddr 78 (Operand.tmp 34) (Operand.tmp 35), type := 0, pos := "law.go:51", after := #[{ on := 17, ground := Ground.data }, { on := 18, ground := Ground.data }, { on := 11, ground := Ground.guard }], guard := some (11, false) }) (v := ?_) rfl (by kernel_rfl) (by kernel_rfl) (by kernel_rfl) (fun _ _ _ h => h) (Or.inl ⟨by rfl, ?hyA19⟩) (by assumption) ?_
      case hyA19 => (intro w hSw; (try dsimp only at hSw); go_simp; try with_reducible rfl)
      (try simp only [Act.put, List.setIfInBounds_toArray, List.set_cons_zero, List.set_cons_succ])
      refine wpAnyH_take (i := 20) (oi := { dst := some 37, op := Op.fieldAddr 158 (Operand.tmp 36) 1, type := 0, pos := "law.go:51", after := #[{ on := 19, ground := Ground.data }, { on := 11, ground := Ground.guard }], guard := some (11, false) }) (v := ?_) rfl (by kernel_rfl) (by kernel_rfl) (by kernel_rfl) (fun _ _ _ h => h) (Or.inl ⟨by rfl, ?hyA20⟩) (by assumption) ?_
      case hyA20 => (intro w hSw; (try dsimp only at hSw); go_simp; try with_reducible rfl)
      (try simp only [Act.put, List.setIfInBounds_toArray, List.set_cons_zero, List.set_cons_succ])
      refine wpAnyH_take (i := 21) (oi := { dst := some 38, op := Op.load 71 (Operand.tmp 37), type := 71, pos := "law.go:51", after := #[{ on := 20, ground := Ground.data }, { on := 11, ground := Ground.guard }], guard := some (11, false) }) (v := ?_) rfl (by kernel_rfl) (by kernel_rfl) (by kernel_rfl) (fun _ _ _ h => h) (Or.inl ⟨by rfl, ?hyA21⟩) (by assumption) ?_
      case hyA21 => (intro w hSw; (try dsimp only at hSw); go_simp; try with_reducible rfl)
      (try simp only [Act.put, List.setIfInBounds_toArray, List.set_cons_zero, List.set_cons_succ])
      refine wpAnyH_ready (rs := [22]) (by kernel_rfl) (by simp) ?_
      refine AllReadyH.cons (o := { dst := some 39, op := Op.call { callee := Callee.value (Operand.func 56), args := #[Operand.tmp 33, Operand.tmp 38], argTypes := #[71, 71] }, type := 4, pos := "law.go:51", after := #[{ on := 16, ground := Ground.data }, { on := 21, ground := Ground.data }, { on := 11, ground := Ground.chain }, { on := 11, ground := Ground.guard }], guard := some (11, false) }) rfl (fun K hK => ?_) AllReadyH.nil
      go_simp
      refine (HSm.out sk si ss _).mono ?_
      rintro e w2 ⟨rfl, hb⟩
      refine hK.out _ _ ?_ (fun hHeldAx => ?_)
      · obtain ⟨q0, q1, q2, q3, q4, q5, q6, q7, q8, q9⟩ := hHeldA
        exact ⟨keep_cell hb q0, keep_cell hb q1, keep_cell hb q2, keep_cell hb q3, keep_cell hb q4, keep_cell hb q5, keep_cell hb q6, keep_cell hb q7, below_next q8 hb q9, le_next q9 hb⟩
      clear hK K hb hHeldA
      (try simp only [Act.put, List.setIfInBounds_toArray, List.set_cons_zero, List.set_cons_succ])
      refine wpAnyH_take (i := 23) (oi := { dst := some 40, op := Op.unOp UnOp.not 4 (Operand.tmp 39), type := 4, pos := "law.go:51", after := #[{ on := 22, ground := Ground.data }, { on := 11, ground := Ground.guard }], guard := some (11, false) }) (v := ?_) rfl (by kernel_rfl) (by kernel_rfl) (by kernel_rfl) (fun _ _ _ h => h) (Or.inl ⟨by rfl, ?hyA23⟩) (by assumption) ?_
      case hyA23 => (intro w hSw; (try dsimp only at hSw); go_simp; try with_reducible rfl)
      (try simp only [Act.put, List.setIfInBounds_toArray, List.set_cons_zero, List.set_cons_succ])
      refine wpAnyH_take (i := 24) (oi := { dst := some 41, op := Op.pick (Operand.tmp 28) (Operand.const (Value.bool true)) (Operand.tmp 40), type := 4, pos := "law.go:51", after := #[{ on := 11, ground := Ground.data }, { on := 23, ground := Ground.data }], guard := none }) (v := ?_) rfl (by kernel_rfl) (by kernel_rfl) (by kernel_rfl) (fun _ _ _ h => h) (Or.inl ⟨by rfl, ?hyA24⟩) (by assumption) ?_
      case hyA24 => (intro w hSw; (try dsimp only at hSw); go_simp; try with_reducible rfl)
      (try simp only [Act.put, List.setIfInBounds_toArray, List.set_cons_zero, List.set_cons_succ])
      refine wpAnyH_done (by kernel_rfl) ?_ _
      have HB2 : Hid (Below w.heap.size w w2) := next_trans HB.out (hHeldAx.2.2.2.2.2.2.2.2.1)
      clear hHeldAx c0 c1 c2 c3 d0 d1 d2 d3 HB
      go_wp2
      go_roundw
      case rel => exact ⟨k + 1, by omega, by go_num, HB2⟩
      case measure => simp [intOf]; omega
    · have hki : ¬ (k : Int) < (N : Int) := by omega
      go_wp2
      go_ret
      exact ⟨rfl, HB.out⟩
def BrE (N : Nat) (e : Ending) : Prop := ∃ r, e = .returned (.bool r) ∧ (r = true → N ≤ 30)
set_option maxHeartbeats 8000000 in
set_option maxRecDepth 8000 in
theorem bright8_any (L : List Sl) (N : Nat) (ao : Option Addr) (ca : Nat) (w : World) (hL : L.length = N) (h : IsSls w ao L) (hsz : ∀ s ∈ L, s.s.size ≤ 9223372036854775807) :
    Calls Tryz.prog 25 #[.slice ao N ca] w fun e w' => BrE N e ∧ Below w.heap.size w w' := by
  have HL : Hid (L.length = N) := hL
  have HI : Hid (IsSls w ao L) := h
  have HZ : Hid (∀ s ∈ L, s.s.size ≤ 9223372036854775807) := hsz
  clear h hL hsz
  go_enter Tryz.func25, Tryz.ntmps25
  by_cases hn : 30 < N
  · have hni : (30 : Int) < (N : Int) := by omega
    go_wp2
    go_ret
    exact ⟨⟨false, rfl, fun e => by cases e⟩, Below.refl _ _⟩
  have hni : ¬ (30 : Int) < (N : Int) := by omega
  go_wp2
  go_loopw [3, 4] (fun q z wr => ∃ k : Nat, k ≤ N ∧ q = .int .i64 k ∧ Hid (Below w.heap.size w wr)) (fun q _ _ => N - (intOf q).toNat)
  case atStart => exact ⟨0, Nat.zero_le _, rfl, Below.refl _ _⟩
  case round =>
    obtain ⟨k, hk, rfl, HB⟩ := hrel
    by_cases hlt : k < N
    · have hki : (k : Int) < (N : Int) := by omega
      have hk0 : (0 : Int) ≤ (k : Int) := by omega
      obtain ⟨s, hs⟩ : ∃ s, L[k]? = some s := ⟨_, List.getElem?_eq_getElem (by rw [HL.out]; exact hlt)⟩
      obtain ⟨b, o, rfl, c0, c1, c2, c3⟩ := (HI.out.next HB.out) k s hs
      have hz := HZ.out s (List.mem_of_getElem? hs)
      obtain ⟨sn, sk, si, ss⟩ := s
      simp only at c0 c1 c2 c3 hz
      obtain ⟨g, Hg⟩ : ∃ g, Hid (rightB sk si ss = g) := ⟨_, rfl⟩
      have HRg : Hid (∀ w', Calls Tryz.prog 26 #[.agg #[.int .i64 (sk), .int .i64 (si), .string (ss)]] w' fun e w2 => e = .returned (.bool g) ∧ Below w'.heap.size w' w2) := by
        intro w'; rw [← Hg.out]; exact brright_any sk si ss w' hz
      clear hs hz Hg
      cases g
      · go_wp2_with fail
        refine (HRg.out _).mono ?_
        rintro e w2 ⟨rfl, hb2⟩
        have HB2 : Hid (Below w.heap.size w w2) := next_trans HB.out hb2
        clear hb2
        go_wp2
        go_ret
        exact ⟨⟨false, rfl, fun e => by cases e⟩, HB2.out⟩
      go_wp2_with fail
      refine (HRg.out _).mono ?_
      rintro e w2 ⟨rfl, hb2⟩
      have HB2 : Hid (Below w.heap.size w w2) := next_trans HB.out hb2
      have c0 : w2.cell? ⟨b, o + k * 4, none⟩ = some (.string sn) := keep_cell hb2 c0
      clear hb2 HRg c1 c2 c3
      by_cases hsn : 100 < sn.size
      · have hsi : (100 : Int) < (sn.size : Int) := by omega
        go_wp2
        go_ret
        exact ⟨⟨false, rfl, fun e => by cases e⟩, HB2.out⟩
      have hsi : ¬ (100 : Int) < (sn.size : Int) := by omega
      clear HB
      go_wp2
      clear c0
      go_loopw [4] (fun q wq => ∃ j : Nat, j ≤ k ∧ q = .int .i64 j ∧ Hid (Below w.heap.size w wq)) (fun q _ => k - (intOf q).toNat)
      case atStart => exact ⟨0, Nat.zero_le _, rfl, HB2⟩
      case round =>
        obtain ⟨j, hj, rfl, HBq⟩ := hrel
        clear HB2
        by_cases hjt : j < k
        · have hji : (j : Int) < (k : Int) := by omega
          have hj0 : (0 : Int) ≤ (j : Int) := by omega
          have hjn : (j : Int) < (N : Int) := by omega
          obtain ⟨s1, hs1⟩ : ∃ s, L[j]? = some s := ⟨_, List.getElem?_eq_getElem (by rw [HL.out]; omega)⟩
          obtain ⟨s2, hs2⟩ : ∃ s, L[k]? = some s := ⟨_, List.getElem?_eq_getElem (by rw [HL.out]; omega)⟩
          obtain ⟨b1, o1, e1, f0, _⟩ := (HI.out.next HBq.out) j s1 hs1
          obtain ⟨b2, o2, e2, g0, _⟩ := (HI.out.next HBq.out) k s2 hs2
          injection e1 with e1
          injection e1 with e3 e4
          subst e3 e4
          injection e2 with e2
          injection e2 with e3 e4
          subst e3 e4
          obtain ⟨n1, k1, i1, t1⟩ := s1
          obtain ⟨n2, k2, i2, t2⟩ := s2
          simp only at f0 g0
          obtain ⟨r, hr⟩ : ∃ r : Bool, (n1.toList == n2.toList) = r := ⟨_, rfl⟩
          clear hs1 hs2
          cases r
          · go_wp2
            go_region
            all_goals
              go_wp2
              go_roundw
              case rel => exact ⟨j + 1, by omega, by go_num, HBq.out.drew⟩
              case measure => simp [intOf]; omega
          · go_wp2
            go_region
            all_goals
              go_wp2
              go_ret
              exact ⟨⟨false, rfl, fun e => by cases e⟩, HBq.out.drew⟩
        · have hji : ¬ (j : Int) < (k : Int) := by omega
          go_wp2
          go_roundw
          case rel => exact ⟨k + 1, by omega, by go_num, HBq⟩
          case measure => simp [intOf]; omega
    · have hki : ¬ (k : Int) < (N : Int) := by omega
      go_wp2
      go_ret
      exact ⟨⟨true, rfl, fun _ => by omega⟩, HB.out⟩
end Go.Proofs.YtnhbjhdkpbhioaaGreatDoor
