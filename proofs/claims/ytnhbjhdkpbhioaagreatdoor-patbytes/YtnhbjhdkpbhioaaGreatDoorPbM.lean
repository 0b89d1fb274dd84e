import Derived.Test.YtnhbjhdkpbhioaaGreatDoorPrMid
import Derived.Test.YtnhbjhdkpbhioaaGreatDoorPtParse
import Derived.Test.YtnhbjhdkpbhioaaGreatDoorG26
import Derived.Test.YtnhbjhdkpbhioaaGreatDoorG13
import Derived.Test.YtnhbjhdkpbhioaaGreatDoorSxPos
import Derived.Test.YtnhbjhdkpbhioaaGreatDoorH8
import Derived.Test.YtnhbjhdkpbhioaaGreatDoorG22
namespace Go.Proofs.YtnhbjhdkpbhioaaGreatDoor
open Go.RowKit
theorem rdL_kid : ∀ (f d a n : Nat) (l : List Tk) (acc : List Nd) (x : Nd) (n' : Nat) (r' : List Tk), n ≤ 4096 → rdL f d a n l acc = .ok (x, n', r') → ∀ y ∈ x.l, y ∈ acc ∨ ∃ t ∈ l, y.a = t.a
  | 0, d, a, n, l, acc, x, n', r', _, h => no_ok h
  | f + 1, d, a, n, [], acc, x, n', r', _, h => by rw [rdL_nil] at h; exact no_ok h
  | f + 1, d, a, n, t :: r, acc, x, n', r', hn, h => by
    by_cases h5 : t.k = 5
    · rw [rdL_close _ _ _ _ _ _ _ h5] at h
      obtain ⟨rfl, _, _⟩ := ok_inj h
      exact fun y hy => .inl hy
    · cases hx : rdN f (d + 1) n (t :: r) with
      | error p =>
        obtain ⟨a', e⟩ := p
        rw [rdL_bad _ _ _ _ _ _ _ _ _ h5 hx] at h
        exact no_ok h
      | ok p =>
        obtain ⟨y, m, q⟩ := p
        rw [rdL_ok _ _ _ _ _ _ _ _ _ _ h5 hx] at h
        have hl := rd_len f (d + 1) n (t :: r) y m q hn hx
        have hs := rd_sub f (d + 1) n (t :: r) y m q hn hx
        intro z hz
        rcases rdL_kid f d a m q _ x n' r' hl.2.2.1 h z hz with g | ⟨u, g1, g2⟩
        · rcases List.mem_append.1 g with g | g
          · exact .inl g
          · rw [List.mem_singleton.1 g]
            exact .inr ⟨t, List.mem_cons_self, rdN_pos hx⟩
        · exact .inr ⟨u, hs u g1, g2⟩
theorem rdN_kid {f d n : Nat} {t : Tk} {r : List Tk} {x : Nd} {n' : Nat} {r' : List Tk} (hn : n ≤ 4096) (h : rdN f d n (t :: r) = .ok (x, n', r')) : ∀ y ∈ x.l, ∃ t' ∈ (t :: r), y.a = t'.a := by
  rw [rdN_cons] at h
  split at h
  · exact no_ok h
  split at h
  · exact no_ok h
  rename_i h4096
  split at h
  · split at h
    · exact no_ok h
    · intro y hy
      rcases rdL_kid _ _ _ _ _ _ _ _ _ (by omega) h y hy with g | ⟨u, g1, g2⟩
      · cases g
      · exact ⟨u, List.mem_cons_of_mem _ g1, g2⟩
  split at h
  · obtain ⟨u, q, hq, _, _, rfl, _, _⟩ := notR_ok h
    intro y hy
    refine ⟨u, by rw [hq]; simp, ?_⟩
    simp only [List.mem_singleton] at hy
    subst hy
    rfl
  · obtain ⟨rfl, _, _⟩ := ok_inj h
    intro y hy
    cases hy
theorem rdT_kid : ∀ (f n : Nat) (l : List Tk) (acc : List Nd), n ≤ 4096 → ∀ x ∈ (rdT f n l acc).l, x ∈ acc ∨ ∀ y ∈ x.l, ∃ t ∈ l, y.a = t.a
  | 0, n, l, acc, _, x, hx => by cases hx
  | f + 1, n, [], acc, _, x, hx => by rw [rdT_nil] at hx; exact .inl hx
  | f + 1, n, t :: r, acc, hn, x, hx => by
    cases hy : rdN f 0 n (t :: r) with
    | error p =>
      obtain ⟨a', e⟩ := p
      rw [rdT_bad _ _ _ _ _ _ _ hy] at hx
      cases hx
    | ok p =>
      obtain ⟨y, m, q⟩ := p
      rw [rdT_ok _ _ _ _ _ _ _ _ hy] at hx
      have hl := rd_len f 0 n (t :: r) y m q hn hy
      have hs := rd_sub f 0 n (t :: r) y m q hn hy
      rcases rdT_kid f m q (acc ++ [y]) hl.2.2.1 x hx with h | h
      · rcases List.mem_append.1 h with h | h
        · exact .inl h
        · rw [List.mem_singleton.1 h]
          exact .inr (rdN_kid hn hy)
      · refine .inr fun z hz => ?_
        obtain ⟨u, h1, h2⟩ := h z hz
        exact ⟨u, hs u h1, h2⟩
theorem readQ_kid (l : List UInt8) : ∀ x ∈ (readQ l).l, ∀ y ∈ x.l, y.a < l.length := fun x hx y hy => by
  unfold readQ at hx
  split at hx
  · rcases rdT_kid _ 0 _ [] (by omega) x hx with h | h
    · cases h
    · obtain ⟨t, ht, h2⟩ := h y hy
      have := scan_at (l.drop 0) 0 0 [] t ht
      rcases this with h | h
      · cases h
      · rw [List.drop_zero] at h; omega
  · cases hx
theorem to_any5 (x : Nd) (ao : Option Addr) (cap : Nat) (w : World) (hb : cntN x ≤ 100000) (hc : x.l.length ≤ cap) (hk : IsNds w anyB ao x.l) :
    Calls Tryz.prog 12 #[ndV x ao cap] w fun e w' => (∃ ao' cap', e = .returned (ndV x ao' cap') ∧ x.l.length ≤ cap' ∧ IsNds w' anyB ao' x.l) ∧ Below w.heap.size w w' := by
  refine (sto_any _ x ao cap w (Nat.le_refl _) hb hc hk).mono ?_
  rintro e w' ⟨⟨c, rfl, h⟩, hbe⟩
  obtain ⟨h1, h2, h3⟩ := nodeV_of h
  exact ⟨⟨c.ao, c.cap, by rw [h1], h2, h3⟩, hbe⟩
theorem of_any9 (x : Nd) (ao : Option Addr) (cap : Nat) (w : World) (hb : cntN x ≤ 100000) (hc : x.l.length ≤ cap) (hk : IsNds w anyB ao x.l) :
    Calls Tryz.prog 20 #[ndV x ao cap] w fun e w' => (∃ ao' cap', e = .returned (ndV x ao' cap') ∧ x.l.length ≤ cap' ∧ IsNds w' anyB ao' x.l) ∧ Below w.heap.size w w' := by
  refine (of_any _ x ao cap w (Nat.le_refl _) hb hc hk).mono ?_
  rintro e w' ⟨⟨c, rfl, h⟩, hbe⟩
  obtain ⟨h1, h2, h3⟩ := nodeV_of h
  exact ⟨⟨c.ao, c.cap, by rw [h1], h2, h3⟩, hbe⟩
def ptOf (x : Nd) : Ptn := match parP T2 x with
  | .ok p => p
  | .error _ => ⟨⟨#[]⟩, []⟩
theorem ptOf_ok {x : Nd} {p : Ptn} (h : parP T2 x = .ok p) : ptOf x = p := by unfold ptOf; rw [h]
theorem ptOf_err {x : Nd} {e : Nat × Int} (h : parP T2 x = .error e) : ptOf x = ⟨⟨#[]⟩, []⟩ := by unfold ptOf; rw [h]
theorem ptOf_len (x : Nd) : (ptOf x).l.length ≤ 2 := by
  unfold ptOf
  split
  · rename_i p hp; exact parP_two hp
  · exact Nat.zero_le _
def TelP (x : Nd) (w : World) (E : Value) : Prop := ((∃ p, parP T2 x = .ok p) ∧ E = .nilIface) ∨ ∃ (a : Nat) (f : Int) (B : Nat), parP T2 x = .error (a, f) ∧ E = .iface 133 (.pointer (some ⟨B, 0, none⟩)) ∧ FaultAt w B (a : Int) f
def TelQ (x : Nd) (w : World) (fo : Option Addr) (fn fc : Nat) (FE : Int) : Prop := ((∃ p, parP T2 x = .ok p) ∧ fo = none ∧ fn = 0 ∧ fc = 0 ∧ FE = 0) ∨ ∃ (a : Nat) (f : Int) (b : Nat), parP T2 x = .error (a, f) ∧ fo = some ⟨b, 0, none⟩ ∧ fn = 1 ∧ fc = 1 ∧ FE = f ∧ PtAt w b (a : Int)
theorem TelP.next {x : Nd} {w w' : World} {E : Value} (h : TelP x w E) (hb : Below w.heap.size w w') : TelP x w' E := by
  rcases h with h | ⟨a, f, B, h1, h2, h3⟩
  · exact .inl h
  · exact .inr ⟨a, f, B, h1, h2, h3.next hb⟩
theorem TelQ.next {x : Nd} {w w' : World} {fo : Option Addr} {fn fc : Nat} {FE : Int} (h : TelQ x w fo fn fc FE) (hb : Below w.heap.size w w') : TelQ x w' fo fn fc FE := by
  rcases h with h | ⟨a, f, b, h1, h2, h3, h3b, h3c, h4⟩
  · exact .inl h
  · exact .inr ⟨a, f, b, h1, h2, h3, h3b, h3c, keep_cell hb h4.1, keep_cell hb h4.2⟩
theorem ppp_g {x : Nd} {w w' : World} {e : Ending} (h : PpR T2 x w w' e) : (∃ po pc E, e = .returned (.tuple #[ptV (ptOf x) po pc, E]) ∧ IsTss w' po (ptOf x).l ∧ TelP x w' E) ∧ Below w.heap.size w w' := by
  refine ⟨?_, h.bel⟩
  rcases h.res with ⟨p, ao, cap, h1, h2, h3⟩ | ⟨a, f, B, h1, h2, h3⟩
  · rw [ptOf_ok h1]
    exact ⟨ao, cap, _, h2, h3, .inl ⟨⟨p, h1⟩, rfl⟩⟩
  · rw [ptOf_err h1]
    exact ⟨none, 0, _, h2, IsTss.nil _ _, .inr ⟨a, f, B, h1, rfl, h3⟩⟩
theorem ParF.pt {x : Nd} {w : World} {tn : ByteArray} {po : Option Addr} {pn pc : Nat} {go : Option Addr} {gn gc : Nat} {G : Int} (h : ParF x w tn po pn pc go gn gc G) : tn = (ptOf x).t ∧ pn = (ptOf x).l.length ∧ IsTss w po (ptOf x).l ∧ TelQ x w go gn gc G := by
  rcases h with ⟨h1, h2, h3, h4, l, h5, h6, h7⟩ | ⟨a, b, h1, h2, h3, h4, h5, h6, h7, h8, h9⟩
  · rw [ptOf_ok h5]
    exact ⟨rfl, h6.symm, h7, .inl ⟨⟨_, h5⟩, h2, h3, h4, h1⟩⟩
  · rw [ptOf_err h1]
    exact ⟨h2, h4, IsTss.nil _ _, .inr ⟨a, G, b, h1, h6, h7, h8, rfl, h9⟩⟩
theorem pplace_bd {l : List UInt8} {x : Nd} {a : Nat} {f : Int} (hx : x ∈ (readQ l).l) (hl : l.length ≤ 3000) (h : parP T2 x = .error (a, f)) : inB (a : Int) = true ∧ 1 ≤ f ∧ f ≤ 11 := by
  obtain ⟨h2, h3⟩ := parP_err h
  simp only at h2 h3
  have h1 : a < 3000 := by
    rcases h3 with h | ⟨y, hy, h⟩
    · have := readQ_pos l x hx; omega
    · have := readQ_kid l x hx y hy; omega
  refine ⟨?_, by omega, by omega⟩
  unfold inB
  simp
  omega
theorem tells_p {l : List UInt8} {x : Nd} {E : Value} {fo : Option Addr} {fn fc : Nat} {FE : Int} (w : World) (hx : x ∈ (readQ l).l) (hl : l.length ≤ 3000) (h1 : TelP x w E) (h2 : TelQ x w fo fn fc FE) (h4 : Lib4 w) :
    Calls Tryz.prog 14 #[E, .agg #[.slice fo fn fc, .int .i64 FE]] w fun e w' => e = .returned (.bool true) ∧ Below w.heap.size w w' := by
  rcases h1 with ⟨⟨t, ht⟩, rfl⟩ | ⟨a, f, B, ha, rfl, hF⟩
  · rcases h2 with ⟨_, rfl, rfl, rfl, rfl⟩ | ⟨a, f, b, hb, _⟩
    · exact tells_nil w
    · rw [ht] at hb; cases hb
  · rcases h2 with ⟨⟨t, ht⟩, _⟩ | ⟨a', f', b, hb, rfl, rfl, rfl, rfl, hP⟩
    · rw [ha] at ht; cases ht
    · rw [ha] at hb
      injection hb with hb
      injection hb with g1 g2
      subst g1 g2
      obtain ⟨g1, g2, g3⟩ := pplace_bd hx hl ha
      exact tells_flt f ([99, 104, 97, 114], (a : Int)) [] _ (some ⟨b, 0, none⟩) 1 w (FaultAt.chain hF) hP.pts h4.err h4.tab g2 g3 (by simp) (fun p hp => by rw [List.mem_singleton.1 hp]; exact ⟨by simp, g1⟩)
theorem TelQ.ok {l : List UInt8} {x : Nd} {w : World} {fo : Option Addr} {fn fc : Nat} {FE : Int} (hx : x ∈ (readQ l).l) (hl : l.length ≤ 3000) (h : TelQ x w fo fn fc FE) : (FE = 0 ∧ parP T2 x = .ok (ptOf x)) ∨ FE ≠ 0 := by
  rcases h with ⟨⟨t, h⟩, _, _, _, h2⟩ | ⟨a, f, b, h1, _, _, _, h2, _⟩
  · refine .inl ⟨h2, ?_⟩
    rw [ptOf_ok h]; exact h
  · obtain ⟨_, g2, _⟩ := pplace_bd hx hl h1
    exact .inr (by omega)
theorem TelP.ok {x : Nd} {w : World} {E : Value} {p : Ptn} (h : TelP x w E) (hp : parP T2 x = .ok p) : E = .nilIface := by
  rcases h with ⟨_, h⟩ | ⟨a, f, B, h1, _⟩
  · exact h
  · rw [hp] at h1; cases h1
theorem ptNd_cnt (T : List Sl) (P : Ptn) (hl : P.l.length ≤ 1000) : cntN (ptNd T P) ≤ 100000 := by
  have hs : ∀ s : Ts, cntN (tsNd T s) ≤ 6 := by
    intro s
    unfold tsNd termNd plainNd
    split <;> split <;> simp only [cntN_mk, cntL_cons, cntL_nil, tsym] <;> omega
  have hm : ∀ l : List Ts, cntL (l.map (tsNd T)) ≤ 6 * l.length := by
    intro l
    induction l with
    | nil => rw [List.map_nil, cntL_nil]; exact Nat.zero_le _
    | cons a r ih => rw [List.map_cons, cntL_cons, List.length_cons]; have := hs a; omega
  unfold ptNd
  simp only [cntN_mk, cntL_cons, tsym, cntL_nil]
  have := hm P.l
  omega
end Go.Proofs.YtnhbjhdkpbhioaaGreatDoor
