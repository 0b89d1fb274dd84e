/- What TmplBytes reads: bounds, calls. -/
import Derived.Test.YtlniifheapoppaaGreatDoorG30
import Derived.Test.YtlniifheapoppaaGreatDoorG25
import Derived.Test.YtlniifheapoppaaGreatDoorG27
import Derived.Test.YtlniifheapoppaaGreatDoorG26
import Derived.Test.YtlniifheapoppaaGreatDoorG13
import Derived.Test.YtlniifheapoppaaGreatDoorG9
import Derived.Test.YtlniifheapoppaaGreatDoorSxPos
import Derived.Test.YtlniifheapoppaaGreatDoorG21
namespace Go.Proofs.YtlniifheapoppaaGreatDoor
open Go.RowKit

theorem wfU_len {k i : Int} {s : List UInt8} (h : WfU k i s) : s.length ≤ 1000 := by
  rcases h.1 with ⟨_, _, rfl⟩ | ⟨_, _, _, h, _⟩ | ⟨_, _, h⟩ | ⟨_, _, rfl⟩ | ⟨_, _, h⟩
  · decide
  · omega
  · omega
  · decide
  · have := good_len h; omega
theorem wfN_len {x : Nd} (h : WfN x) : x.s.length ≤ 1000 := by
  rcases h with ⟨_, _, h, _⟩ | ⟨_, _, h, _⟩ | ⟨h, _⟩
  · rw [h]; decide
  · rw [h]; decide
  · exact wfU_len h
theorem wfN_kid {x y : Nd} (h : WfN x) (hy : y ∈ x.l) : y.s.length ≤ 1000 ∧ ∀ z ∈ y.l, z.s.length ≤ 1000 := by
  have hU : ∀ {k : Int} {a : Nat} {i : Int} {s : List UInt8}, WfU k i s → (⟨k, a, i, s, []⟩ : Nd).s.length ≤ 1000 ∧ ∀ z ∈ (⟨k, a, i, s, []⟩ : Nd).l, z.s.length ≤ 1000 := fun h => ⟨wfU_len h, fun z hz => by cases hz⟩
  rcases h with ⟨_, _, _, h⟩ | ⟨_, _, _, k, a, i, s, h, hu⟩ | ⟨_, h⟩
  · have hw := WfL_mem h y hy
    refine ⟨wfN_len hw, fun z hz => ?_⟩
    rcases hw with ⟨_, _, _, h⟩ | ⟨_, _, _, k, a, i, s, h, hu⟩ | ⟨_, h⟩
    · exact wfN_len (WfL_mem h z hz)
    · rw [h, List.mem_singleton] at hz
      subst hz
      exact wfU_len hu
    · rw [h] at hz; cases hz
  · rw [h, List.mem_singleton] at hy
    subst hy
    exact hU hu
  · rw [h] at hy; cases hy
theorem wfN_bd {x : Nd} (h : WfN x) : ∀ y ∈ x.l, y.s.length ≤ 300000 ∧ ∀ z ∈ y.l, z.s.length ≤ 300000 := fun y hy => by
  obtain ⟨h1, h2⟩ := wfN_kid h hy
  exact ⟨by omega, fun z hz => by have := h2 z hz; omega⟩
theorem lt_of_cell {w : World} {b o : Nat} {v : Value} (h : w.cell? ⟨b, o, none⟩ = some v) : b < w.heap.size := by
  rcases Nat.lt_or_ge b w.heap.size with h1 | h1
  · exact h1
  · unfold World.cell? at h; rw [Array.getElem?_eq_none h1] at h; exact absurd h (by simp)
theorem rdL_kid : ∀ (f d a n : Nat) (l : List Tk) (acc : List Nd) (x : Nd) (n' : Nat) (r' : List Tk), n ≤ 4096 → rdL f d a n l acc = .ok (x, n', r') → ∀ y ∈ x.l, y ∈ acc ∨ ∃ t ∈ l, y.a = t.a
  | 0, d, a, n, l, acc, x, n', r', _, h => no_ok h
  | f + 1, d, a, n, [], acc, x, n', r', _, h => by rw [rdL_nil] at h; exact no_ok h
  | f + 1, d, a, n, t :: r, acc, x, n', r', hn, h => by
    by_cases h5 : t.k = 5
    · rw [rdL_close _ _ _ _ _ _ _ h5] at h
      obtain ⟨rfl, _, _⟩ := ok_inj h
      exact fun y hy => .inl hy
    · cases hx : rdN f (d + 1) n (t :: r) with
      | error p =>
        obtain ⟨a', e⟩ := p
        rw [rdL_bad _ _ _ _ _ _ _ _ _ h5 hx] at h
        exact no_ok h
      | ok p =>
        obtain ⟨y, m, q⟩ := p
        rw [rdL_ok _ _ _ _ _ _ _ _ _ _ h5 hx] at h
        have hl := rd_len f (d + 1) n (t :: r) y m q hn hx
        have hs := rd_sub f (d + 1) n (t :: r) y m q hn hx
        intro z hz
        rcases rdL_kid f d a m q _ x n' r' hl.2.2.1 h z hz with g | ⟨u, g1, g2⟩
        · rcases List.mem_append.1 g with g | g
          · exact .inl g
          · rw [List.mem_singleton.1 g]
            exact .inr ⟨t, List.mem_cons_self, rdN_pos hx⟩
        · exact .inr ⟨u, hs u g1, g2⟩
theorem rdN_kid {f d n : Nat} {t : Tk} {r : List Tk} {x : Nd} {n' : Nat} {r' : List Tk} (hn : n ≤ 4096) (h : rdN f d n (t :: r) = .ok (x, n', r')) : ∀ y ∈ x.l, ∃ t' ∈ (t :: r), y.a = t'.a := by
  rw [rdN_cons] at h
  split at h
  · exact no_ok h
  split at h
  · exact no_ok h
  rename_i h4096
  split at h
  · split at h
    · exact no_ok h
    · intro y hy
      rcases rdL_kid _ _ _ _ _ _ _ _ _ (by omega) h y hy with g | ⟨u, g1, g2⟩
      · cases g
      · exact ⟨u, List.mem_cons_of_mem _ g1, g2⟩
  split at h
  · obtain ⟨u, q, hq, _, _, rfl, _, _⟩ := notR_ok h
    intro y hy
    refine ⟨u, by rw [hq]; simp, ?_⟩
    simp only [List.mem_singleton] at hy
    subst hy
    rfl
  · obtain ⟨rfl, _, _⟩ := ok_inj h
    intro y hy
    cases hy
theorem rdT_kid : ∀ (f n : Nat) (l : List Tk) (acc : List Nd), n ≤ 4096 → ∀ x ∈ (rdT f n l acc).l, x ∈ acc ∨ ∀ y ∈ x.l, ∃ t ∈ l, y.a = t.a
  | 0, n, l, acc, _, x, hx => by cases hx
  | f + 1, n, [], acc, _, x, hx => by rw [rdT_nil] at hx; exact .inl hx
  | f + 1, n, t :: r, acc, hn, x, hx => by
    cases hy : rdN f 0 n (t :: r) with
    | error p =>
      obtain ⟨a', e⟩ := p
      rw [rdT_bad _ _ _ _ _ _ _ hy] at hx
      cases hx
    | ok p =>
      obtain ⟨y, m, q⟩ := p
      rw [rdT_ok _ _ _ _ _ _ _ _ hy] at hx
      have hl := rd_len f 0 n (t :: r) y m q hn hy
      have hs := rd_sub f 0 n (t :: r) y m q hn hy
      rcases rdT_kid f m q (acc ++ [y]) hl.2.2.1 x hx with h | h
      · rcases List.mem_append.1 h with h | h
        · exact .inl h
        · rw [List.mem_singleton.1 h]
          exact .inr (rdN_kid hn hy)
      · refine .inr fun z hz => ?_
        obtain ⟨u, h1, h2⟩ := h z hz
        exact ⟨u, hs u h1, h2⟩
theorem readQ_kid (l : List UInt8) : ∀ x ∈ (readQ l).l, ∀ y ∈ x.l, y.a < l.length := fun x hx y hy => by
  unfold readQ at hx
  split at hx
  · rcases rdT_kid _ 0 _ [] (by omega) x hx with h | h
    · cases h
    · obtain ⟨t, ht, h2⟩ := h y hy
      have := scan_at (l.drop 0) 0 0 [] t ht
      rcases this with h | h
      · cases h
      · rw [List.drop_zero] at h; omega
  · cases hx
theorem runT_place : ∀ (r : List Nd) (acc : List Sl) (p : Nat × Int), runT acc r = .error p → ∃ y ∈ r, p.1 = y.a
  | [], acc, p, h => by cases h
  | x :: r, acc, p, h => by
    unfold runT at h
    split at h
    · cases h; exact ⟨x, by simp, rfl⟩
    · obtain ⟨y, h1, h2⟩ := runT_place r _ p h
      exact ⟨y, List.mem_cons_of_mem _ h1, h2⟩
theorem parT_place {x : Nd} {p : Nat × Int} (h : parT x = .error p) : p.1 = x.a ∨ ∃ y ∈ x.l, p.1 = y.a := by
  unfold parT at h
  split at h
  · split at h
    · rename_i z m r hl
      split at h
      · split at h
        · cases h
        · rename_i q hq
          cases h
          obtain ⟨y, h1, h2⟩ := runT_place r [] _ hq
          exact .inr ⟨y, by rw [hl]; simp [h1], h2⟩
      · cases h; exact .inl rfl
    · cases h; exact .inl rfl
  · cases h; exact .inl rfl
theorem place_bd {l : List UInt8} {x : Nd} {a : Nat} {f : Int} (hx : x ∈ (readQ l).l) (hl : l.length ≤ 3000) (h : parT x = .error (a, f)) : inB (a : Int) = true ∧ 1 ≤ f ∧ f ≤ 11 := by
  have h1 : a < 3000 := by
    rcases parT_place h with h | ⟨y, hy, h⟩
    · have := readQ_pos l x hx; simp only at h; omega
    · have := readQ_kid l x hx y hy; simp only at h; omega
  have h2 : f = 2 ∨ f = 4 ∨ f = 6 := parT_err h
  refine ⟨?_, by omega, by omega⟩
  unfold inB
  simp
  omega
theorem good_size {s : ByteArray} (h : goodB s = true) : s.data.toList.length ≤ 40 := (good_len h).2
theorem tmplNd_bd {t : Tp} (h : OkT t) : cntN (tmplNd t) ≤ 1000 ∧ (∀ y ∈ (tmplNd t).l, y.s.length ≤ 300000 ∧ ∀ z ∈ y.l, z.s.length ≤ 300000) := by
  constructor
  · have hs : ∀ s : Sl, cntN (slotNd s) ≤ 6 := by
      intro s
      unfold slotNd
      split <;> simp only [cntN_mk, cntL_cons, cntL_nil, tsym, defNd, valNd] <;> omega
    have hl : ∀ l : List Sl, cntL (l.map slotNd) ≤ 6 * l.length := by
      intro l
      induction l with
      | nil => rw [List.map_nil, cntL_nil]; exact Nat.zero_le _
      | cons a r ih => rw [List.map_cons, cntL_cons, List.length_cons]; have := hs a; omega
    unfold tmplNd
    simp only [cntN_mk, cntL_cons, tsym, cntL_nil]
    have := hl t.l
    have := h.len
    omega
  · intro y hy
    unfold tmplNd at hy
    simp only [List.mem_cons, List.mem_map] at hy
    rcases hy with rfl | rfl | ⟨s, hs, rfl⟩
    · exact ⟨by decide, fun z hz => by cases hz⟩
    · refine ⟨?_, fun z hz => by cases hz⟩
      have := good_size h.n
      show t.n.data.toList.length ≤ _
      omega
    · refine ⟨Nat.zero_le _, fun z hz => ?_⟩
      unfold slotNd at hz
      simp only [List.mem_cons] at hz
      rcases hz with rfl | rfl | hz
      · decide
      · have := good_size (h.all s hs).n
        show s.n.data.toList.length ≤ _
        omega
      · split at hz
        · cases hz
        · rw [List.mem_singleton] at hz; subst hz; exact Nat.zero_le _
theorem to_any5 (x : Nd) (ao : Option Addr) (cap : Nat) (w : World) (hb : cntN x ≤ 100000) (hc : x.l.length ≤ cap) (hk : IsNds w anyB ao x.l) :
    Calls Tryz.prog 9 #[ndV x ao cap] w fun e w' => (∃ ao' cap', e = .returned (ndV x ao' cap') ∧ x.l.length ≤ cap' ∧ IsNds w' anyB ao' x.l) ∧ Below w.heap.size w w' := by
  refine (sto_any _ x ao cap w (Nat.le_refl _) hb hc hk).mono ?_
  rintro e w' ⟨⟨c, rfl, h⟩, hbe⟩
  obtain ⟨h1, h2, h3⟩ := nodeV_of h
  exact ⟨⟨c.ao, c.cap, by rw [h1], h2, h3⟩, hbe⟩
theorem of_any9 (x : Nd) (ao : Option Addr) (cap : Nat) (w : World) (hb : cntN x ≤ 100000) (hc : x.l.length ≤ cap) (hk : IsNds w anyB ao x.l) :
    Calls Tryz.prog 17 #[ndV x ao cap] w fun e w' => (∃ ao' cap', e = .returned (ndV x ao' cap') ∧ x.l.length ≤ cap' ∧ IsNds w' anyB ao' x.l) ∧ Below w.heap.size w w' := by
  refine (of_any _ x ao cap w (Nat.le_refl _) hb hc hk).mono ?_
  rintro e w' ⟨⟨c, rfl, h⟩, hbe⟩
  obtain ⟨h1, h2, h3⟩ := nodeV_of h
  exact ⟨⟨c.ao, c.cap, by rw [h1], h2, h3⟩, hbe⟩
def tpOf (x : Nd) : Tp := match parT x with
  | .ok t => t
  | .error _ => ⟨⟨#[]⟩, []⟩
theorem tpOf_len (x : Nd) : (tpOf x).l.length ≤ 16 := by
  unfold tpOf
  split
  · rename_i t ht; exact (parT_ok ht).len
  · exact Nat.zero_le _
def TellE (x : Nd) (w : World) (E : Value) : Prop := ((∃ t, parT x = .ok t) ∧ E = .nilIface) ∨ ∃ (a : Nat) (f : Int) (B : Nat), parT x = .error (a, f) ∧ E = .iface 104 (.pointer (some ⟨B, 0, none⟩)) ∧ FaultAt w B (a : Int) f
def TellF (x : Nd) (w : World) (fo : Option Addr) (fn fc : Nat) (FE : Int) : Prop := ((∃ t, parT x = .ok t) ∧ fo = none ∧ fn = 0 ∧ fc = 0 ∧ FE = 0) ∨ ∃ (a : Nat) (f : Int) (b : Nat), parT x = .error (a, f) ∧ fo = some ⟨b, 0, none⟩ ∧ fn = 1 ∧ fc = 1 ∧ FE = f ∧ PtAt w b (a : Int)
theorem TellE.next {x : Nd} {w w' : World} {E : Value} (h : TellE x w E) (hb : Below w.heap.size w w') : TellE x w' E := by
  rcases h with h | ⟨a, f, B, h1, h2, h3⟩
  · exact .inl h
  · exact .inr ⟨a, f, B, h1, h2, h3.next hb⟩
theorem TellF.next {x : Nd} {w w' : World} {fo : Option Addr} {fn fc : Nat} {FE : Int} (h : TellF x w fo fn fc FE) (hb : Below w.heap.size w w') : TellF x w' fo fn fc FE := by
  rcases h with h | ⟨a, f, b, h1, h2, h3, h3b, h3c, h4⟩
  · exact .inl h
  · exact .inr ⟨a, f, b, h1, h2, h3, h3b, h3c, keep_cell hb h4.1, keep_cell hb h4.2⟩
theorem tparse_g (x : Nd) (ao : Option Addr) (cap : Nat) (w : World) (hb : cntN x ≤ 100000) (hs : ∀ y ∈ x.l, y.s.length ≤ 300000 ∧ ∀ z ∈ y.l, z.s.length ≤ 300000) (hc : x.l.length ≤ cap) (hk : IsNds w anyB ao x.l) :
    Calls Tryz.prog 8 #[ndV x ao cap] w fun e w' => (∃ to tc E, e = .returned (.tuple #[tmV (tpOf x) to tc, E]) ∧ IsSls w' to (tpOf x).l ∧ TellE x w' E) ∧ Below w.heap.size w w' := by
  refine (tparse_any x ao cap w hb hs hc hk).mono ?_
  rintro e w' ⟨hbe, hr⟩
  refine ⟨?_, hbe⟩
  rcases hr with ⟨t, to, tc, h1, h2, _, h4⟩ | ⟨a, f, B, h1, h2, h3⟩
  · have ht : tpOf x = t := by unfold tpOf; rw [h1]
    exact ⟨to, tc, _, by rw [ht]; exact h2, by rw [ht]; exact h4, .inl ⟨⟨t, h1⟩, rfl⟩⟩
  · have ht : tpOf x = ⟨⟨#[]⟩, []⟩ := by unfold tpOf; rw [h1]
    exact ⟨none, 0, _, by rw [ht]; exact h2, by rw [ht]; exact fun j y hj => by simp at hj, .inr ⟨a, f, B, h1, rfl, h3⟩⟩
theorem trparse_g (x : Nd) (ao : Option Addr) (cap : Nat) (w : World) (hb : cntN x ≤ 100000) (hs : ∀ y ∈ x.l, y.s.length ≤ 300000 ∧ ∀ z ∈ y.l, z.s.length ≤ 300000) (hc : x.l.length ≤ cap) (hk : IsNds w anyB ao x.l) :
    Calls Tryz.prog 10 #[ndV x ao cap] w fun e w' => (∃ to tc fo fn fc FE, e = .returned (.tuple #[tmV (tpOf x) to tc, .agg #[.slice fo fn fc, .int .i64 FE]]) ∧ IsSls w' to (tpOf x).l ∧ TellF x w' fo fn fc FE) ∧ Below w.heap.size w w' := by
  refine (trparse_any x ao cap w hb hs hc hk).mono ?_
  rintro e w' ⟨hbe, hr⟩
  refine ⟨?_, hbe⟩
  rcases hr with ⟨t, to, tc, h1, h2, _, h4⟩ | ⟨a, f, b, h1, h2, h3⟩
  · have ht : tpOf x = t := by unfold tpOf; rw [h1]
    exact ⟨to, tc, _, _, _, _, by rw [ht]; exact h2, by rw [ht]; exact h4, .inl ⟨⟨t, h1⟩, rfl, rfl, rfl, rfl⟩⟩
  · have ht : tpOf x = ⟨⟨#[]⟩, []⟩ := by unfold tpOf; rw [h1]
    exact ⟨none, 0, _, _, _, _, by rw [ht]; exact h2, by rw [ht]; exact fun j y hj => by simp at hj, .inr ⟨a, f, b, h1, rfl, rfl, rfl, rfl, h3⟩⟩
theorem tells_g {l : List UInt8} {x : Nd} {E : Value} {fo : Option Addr} {fn fc : Nat} {FE : Int} (w : World) (hx : x ∈ (readQ l).l) (hl : l.length ≤ 3000) (h1 : TellE x w E) (h2 : TellF x w fo fn fc FE) (h4 : Lib4 w) :
    Calls Tryz.prog 11 #[E, .agg #[.slice fo fn fc, .int .i64 FE]] w fun e w' => e = .returned (.bool true) ∧ Below w.heap.size w w' := by
  rcases h1 with ⟨⟨t, ht⟩, rfl⟩ | ⟨a, f, B, ha, rfl, hF⟩
  · rcases h2 with ⟨_, rfl, rfl, rfl, rfl⟩ | ⟨a, f, b, hb, _⟩
    · exact tells_nil w
    · rw [ht] at hb; cases hb
  · rcases h2 with ⟨⟨t, ht⟩, _⟩ | ⟨a', f', b, hb, rfl, rfl, rfl, rfl, hP⟩
    · rw [ha] at ht; cases ht
    · rw [ha] at hb
      injection hb with hb
      injection hb with g1 g2
      subst g1 g2
      obtain ⟨g1, g2, g3⟩ := place_bd hx hl ha
      exact tells_one B b a f w (FaultAt.chain hF) hP h4 g2 g3 g1
theorem TellF.ok {l : List UInt8} {x : Nd} {w : World} {fo : Option Addr} {fn fc : Nat} {FE : Int} (hx : x ∈ (readQ l).l) (hl : l.length ≤ 3000) (h : TellF x w fo fn fc FE) : (FE = 0 ∧ parT x = .ok (tpOf x)) ∨ FE ≠ 0 := by
  rcases h with ⟨⟨t, h⟩, _, _, _, h2⟩ | ⟨a, f, b, h1, _, _, _, h2, _⟩
  · refine .inl ⟨h2, ?_⟩
    unfold tpOf; rw [h]
  · obtain ⟨_, g2, _⟩ := place_bd hx hl h1
    exact .inr (by omega)
end Go.Proofs.YtlniifheapoppaaGreatDoor
