/- The contract of package lex's Scan. -/
import Derived.Test.YtlnkeebfaninfaaGreatDoorLexOne
namespace Go.Proofs.YtlnkeebfaninfaaGreatDoor
open Go.RowKit

theorem inT : (Tryz.prog.info? 40).map (fun i => (i.zero, i.size, i.bytes)) = some (some (.agg #[.int .i64 (0), .int .i64 (0), .int .i64 (0), .string (⟨#[]⟩)]), 4, 40) := by kernel_rfl
theorem inT' : ∃ i, Tryz.prog.info? 40 = some i ∧ i.zero = some (.agg #[.int .i64 (0), .int .i64 (0), .int .i64 (0), .string (⟨#[]⟩)]) ∧ i.size = 4 ∧ i.bytes = 40 := by
  obtain ⟨i, h, e⟩ := Option.map_eq_some_iff.1 inT
  simp only [Prod.mk.injEq] at e
  exact ⟨i, h, e.1, e.2.1, e.2.2⟩
def tkC (t : Tk) : List Value := [.int .i64 t.k, .int .i64 (t.a : Int), .int .i64 t.i, .string (baL t.s)]
def toksC (L : List Tk) : List Value := L.flatMap tkC
theorem toks_snoc (L : List Tk) (t : Tk) : toksC L ++ tkC t = toksC (L ++ [t]) := by unfold toksC; rw [List.flatMap_append]; simp
theorem own_next {w w' : World} {B e size n : Nat} {v : Value} {xs : List Value} (h : w.ownsRow B e size v n xs) (hb : Below w.heap.size w w') : w'.ownsRow B e size v n xs := by
  refine ⟨h.1, h.2.elim Or.inl (fun ⟨g, cap, cur, hv, hg, hh, r⟩ => Or.inr ⟨g, cap, cur, hv, hg, ?_, r⟩)⟩
  have hlt : g < w.heap.size := by
    rcases Nat.lt_or_ge g w.heap.size with h1 | h1
    · exact h1
    · rw [Array.getElem?_eq_none h1] at hh; exact absurd hh (by simp)
  rw [hb.block g hlt]; exact hh

/-- What Scan tells: the tokens, or a Fault. -/
structure ScanR (w w' : World) (e : Ending) (r : Out) : Prop where
  bel : Below w.heap.size w w'
  res : (r.e = 0 ∧ ∃ v, e = .returned (.tuple #[v, .nilIface]) ∧ w'.ownsRow w.heap.size 40 4 v r.l.length (toksC r.l)) ∨
    (r.e ≠ 0 ∧ ∃ B, w.heap.size ≤ B ∧ e = .returned (.tuple #[.slice none 0 0, .iface 32 (.pointer (some ⟨B, 0, none⟩))]) ∧ FaultAt w' B r.a r.e)
theorem Q_bad' {l : List UInt8} {p : Nat} {c : UInt8} {m : Rd} (h : l[p]? = some c) (hs : stopL l p) (hm : oneL (l.drop p) = m) (he : m.e ≠ 0) (acc : List Tk) : scanQ l p acc = ⟨[], p, m.e⟩ := by
  obtain ⟨h1, h2⟩ := hs c h
  obtain ⟨hp, rfl⟩ := List.getElem?_eq_some_iff.1 h
  rw [← hm]
  exact Q_bad l p acc hp h1 h2 (by rw [hm]; exact he)
theorem Q_tok' {l : List UInt8} {p : Nat} {c : UInt8} {m : Rd} (h : l[p]? = some c) (hs : stopL l p) (hm : oneL (l.drop p) = m) (he : m.e = 0) (acc : List Tk) : scanQ l p acc = scanQ l (p + m.z) (acc ++ [⟨m.k, p, m.i, m.s⟩]) := by
  obtain ⟨h1, h2⟩ := hs c h
  obtain ⟨hp, rfl⟩ := List.getElem?_eq_some_iff.1 h
  exact Q_tok l p acc m hp h1 h2 hm he
theorem one_bd {l : List UInt8} {p : Nat} {m : Rd} (h : p < l.length) (hm : oneL (l.drop p) = m) (he : m.e = 0) : 1 ≤ m.z ∧ p + m.z ≤ l.length := by
  have := one_z (l.drop p) (by rw [hm]; exact he)
  rw [hm, List.length_drop] at this
  omega

set_option maxHeartbeats 4000000 in
set_option maxRecDepth 4000 in
theorem scan_any (ao : Option Addr) (n cap : Nat) (l : List UInt8) (w : World) (hl : l.length = n) (h : IsB w ao l) (hn : n ≤ 65536) (hc : n ≤ cap) (hm : MaxW w) :
    Calls Tryz.prog 7 #[.slice ao n cap] w fun e w' => ScanR w w' e (scanQ l 0 []) := by
  obtain ⟨i0, hi, hz0, hz1, hz2⟩ := inT'
  obtain ⟨R, HR⟩ : ∃ R, Hid (scanQ l 0 [] = R) := ⟨_, rfl⟩
  rw [HR.out]
  have HI : Hid (IsB w ao l) := h
  have HL : Hid (l.length = n) := hl
  have HMx : Hid (MaxW w) := hm
  have hni : ¬ (65536 : Int) < (n : Int) := by omega
  clear h hl hm
  go_enter Tryz.func7, Tryz.ntmps7
  go_wp2_with fail
  refine (skip_any ao n cap 0 l _ HL.out HI.out (by omega) hc (Nat.zero_le _) HMx.out).mono ?_
  rintro e w1 ⟨p0, rfl, _, hp0, hs0, ht0, hb1⟩
  have HS0 : Hid (scanQ l p0 [] = R) := by rw [Hid, ← hs0]; exact HR.out
  have HT0 : Hid (stopL l p0) := ht0
  have HB0 : Hid (Below w.heap.size w w1) := hb1
  obtain ⟨B, HB⟩ : ∃ B, Hid (w.heap.size = B) := ⟨_, rfl⟩
  clear hs0 ht0 hb1
  go_wp2
  go_loopw [4, 5] (fun v i wr => ∃ (p : Nat) (acc : List Tk), p ≤ n ∧ i = .int .i64 p ∧ Hid (scanQ l p acc = R) ∧ Hid (stopL l p) ∧ Hid (wr.ownsRow B 40 4 v acc.length (toksC acc)) ∧ Hid (Below w.heap.size w wr) ∧ Hid (acc.length ≤ p)) (fun _ i _ => n - (intOf i).toNat)
  case atStart => exact ⟨p0, [], hp0, rfl, HS0, HT0, World.ownsRow_nil _ _ _ _, HB0, Nat.zero_le _⟩
  case round =>
    obtain ⟨p, acc, hpn, rfl, HS, HT, HO, HW, HA⟩ := hrel
    by_cases hlt : p < n
    · have hli : (p : Int) < (n : Int) := by omega
      have hpl : p < l.length := by rw [HL.out]; exact hlt
      obtain ⟨b, o, rfl, hbs⟩ := HI.out (by omega)
      have HI2 : Hid (Bs w b o l) := hbs
      obtain ⟨c, HC⟩ : ∃ c, Hid (l[p]? = some c) := ⟨_, List.getElem?_eq_getElem hpl⟩
      have hsl : ∀ w, (Instr.slice 22 (.slice (some ⟨b, o, none⟩) n cap) (some (.int .i64 (p : Int))) none none).run Tryz.prog w = .ok (.slice (some ⟨b, o + p, none⟩) (n - p) (cap - p)) w := fun w => by
        rw [slice_from _ n cap p _ w rfl (by omega), from_at b o cap p (by omega)]
      obtain ⟨m, Hm⟩ : ∃ m, Hid (oneL (l.drop p) = m) := ⟨_, rfl⟩
      have HRd : Hid (Calls Tryz.prog 15 #[.slice (some ⟨b, o + p, none⟩) (n - p) (cap - p)] wr fun e w' => e = .returned (rdV m) ∧ Below wr.heap.size wr w') := by
        have h1 := (HI2.out.next HW.out).drop p
        have h2 : (l.drop p).length = n - p := by rw [List.length_drop, HL.out]
        rw [Hid, ← Hm.out]
        rw [drop_at HC.out] at h1 h2 ⊢
        exact read_one b (o + p) (n - p) (cap - p) c _ wr h2 h1 (by omega) (by omega)
      clear hbs
      by_cases he : m.e = 0
      · have hei : (m.e == 0) = true := by simpa using he
        obtain ⟨hz3, hz4⟩ := one_bd hpl Hm.out he
        have HS1 : Hid (scanQ l (p + m.z) (acc ++ [⟨m.k, p, m.i, m.s⟩]) = R) := by rw [Hid, ← Q_tok' HC.out HT.out Hm.out he]; exact HS.out
        rw [HL.out] at hz4
        clear he Hm HS HT
        obtain ⟨me, mk, mi, ms, mz⟩ := m
        simp only at hei HS1 hz3 hz4
        go_wp2_with fail
        refine HRd.out.mono ?_
        rintro e w2 ⟨rfl, hb2⟩
        have HB2 : Hid (Below w.heap.size w w2) := next_trans HW.out hb2
        have HO2 : Hid (w2.ownsRow B 40 4 u4 acc.length (toksC acc)) := own_next HO.out hb2
        clear hb2 HRd
        unfold rdV
        go_wp2_with (at_builtin; refine wpList_append_own _ rfl _ _ 24 rfl B 40 i0 (.agg #[.int .i64 (0), .int .i64 (0), .int .i64 (0), .string (⟨#[]⟩)]) 4 40 Tryz.underlying24 hi hz0 hz1 hz2 rfl (by decide) _ _ _ rfl ((HO2.out.alloc _).alloc _) ⟨w2.heap.size + 1, 0, none⟩ 1 1 [.int .i64 mk, .int .i64 (p : Int), .int .i64 mi, .string (baL ms)] rfl rfl ?c1 ?c2 ?c3 ?c4 ?c5 ?_)
        case c1 =>
          intro j u hj
          match j, hj with
          | 0, hj => simp at hj; subst hj; simp [Addr.add]
          | 1, hj => simp at hj; subst hj; simp [Addr.add]
          | 2, hj => simp at hj; subst hj; simp [Addr.add]
          | 3, hj => simp at hj; subst hj; simp [Addr.add]
        case c2 => intro u hu; simp at hu; rcases hu with rfl | rfl | rfl | rfl <;> rfl
        case c3 => have := HA.out; unfold maxLen; omega
        case c4 => have := HA.out; omega
        case c5 => have := HB2.out.size; have := HB.out; simp; omega
        intro s2 w3 ho hg _
        have HO3 : Hid (w3.ownsRow B 40 4 s2 (acc ++ [(⟨mk, p, mi, ms⟩ : Tk)]).length (toksC (acc ++ [(⟨mk, p, mi, ms⟩ : Tk)]))) := by
          rw [← toks_snoc, Hid, List.length_append]; exact ho
        have HB3 : Hid (Below w.heap.size w w3) := by
          have hs := HB2.out.size
          refine HB2.out.trans ((((Below.refl _ w2).alloc hs _).alloc (by simp; omega) _).grown hg (by simp; omega) (fun k hk => ?_))
          have := (HO2.out.lt k hk).1
          rw [HB.out]; exact this
        have HA3 : Hid ((acc ++ [(⟨mk, p, mi, ms⟩ : Tk)]).length ≤ p + mz) := by have := HA.out; rw [Hid, List.length_append, List.length_singleton]; omega
        have HSk : Hid (∀ w' : World, Below w.heap.size w w' → Calls Tryz.prog 14 #[.slice (some ⟨b, o, none⟩) n cap, .int .i64 ((p : Int) + (mz : Int))] w' fun e w4 => ∃ q : Nat, e = .returned (.int .i64 (q : Int)) ∧ p + mz ≤ q ∧ q ≤ n ∧ (∀ acc, scanQ l (p + mz) acc = scanQ l q acc) ∧ stopL l q ∧ Below w'.heap.size w' w4) := by
          intro w' hb
          have := skip_any (some ⟨b, o, none⟩) n cap (p + mz) l w' HL.out (HI.out.next hb) (by omega) hc hz4 (HMx.out.next hb)
          rw [Int.natCast_add] at this
          exact this
        clear ho hg
        go_wp2_with fail
        refine (HSk.out _ HB3.out).mono ?_
        rintro e w4 ⟨q, rfl, hq1, hq2, hq3, hq4, hb4⟩
        have HS4 : Hid (scanQ l q (acc ++ [(⟨mk, p, mi, ms⟩ : Tk)]) = R) := by rw [Hid, ← hq3]; exact HS1.out
        have HT4 : Hid (stopL l q) := hq4
        have HO4 : Hid (w4.ownsRow B 40 4 s2 (acc ++ [(⟨mk, p, mi, ms⟩ : Tk)]).length (toksC (acc ++ [(⟨mk, p, mi, ms⟩ : Tk)]))) := own_next HO3.out hb4
        have HB4 : Hid (Below w.heap.size w w4) := next_trans HB3.out hb4
        have HA4 : Hid ((acc ++ [(⟨mk, p, mi, ms⟩ : Tk)]).length ≤ q) := Nat.le_trans HA3.out hq1
        clear hq3 hq4 hb4 HSk
        go_wp2
        go_round
        case rel => exact ⟨q, acc ++ [⟨mk, p, mi, ms⟩], hq2, rfl, HS4, HT4, HO4, HB4, HA4⟩
        case measure => simp [intOf]; omega
      · have hei : (m.e == 0) = false := by simpa using he
        have HE : Hid (R = ⟨[], p, m.e⟩) := by rw [Hid, ← HS.out]; exact Q_bad' HC.out HT.out Hm.out he acc
        have HN : Hid (m.e ≠ 0) := he
        clear he Hm HS HT
        obtain ⟨me, mk, mi, ms, mz⟩ := m
        simp only at hei HE HN
        go_wp2_with fail
        refine HRd.out.mono ?_
        rintro e w2 ⟨rfl, hb2⟩
        have HB2 : Hid (Below w.heap.size w w2) := next_trans HW.out hb2
        clear hb2 HRd
        unfold rdV
        go_wp2_with fail
        refine (fault_any _ _ _).mono ?_
        rintro e w3 ⟨rfl, hf, hb3⟩
        have HF : Hid (FaultAt w3 (w2.heap.size + 1) p me) := by rw [Hid]; simpa using hf
        have HB3 : Hid (Below w.heap.size w w3) := next_trans (next_trans HB2.out (alloc_below _ _)) hb3
        clear hf hb3
        go_wp2
        go_ret2
        rw [HE.out]
        refine ⟨HB3.out, .inr ⟨HN.out, w2.heap.size + 1, ?_, ?_, HF.out⟩⟩
        · have := HB2.out.size; omega
        · simp
    · have hli : ¬ (p : Int) < (n : Int) := by omega
      have HE : Hid (R = ⟨acc, 0, 0⟩) := by rw [Hid, ← HS.out]; exact Q_end l p acc (by rw [HL.out]; omega)
      go_wp2
      go_ret2
      rw [HE.out]
      exact ⟨HW.out, .inl ⟨rfl, _, rfl, by rw [HB.out]; exact HO.out⟩⟩
end Go.Proofs.YtlnkeebfaninfaaGreatDoor
