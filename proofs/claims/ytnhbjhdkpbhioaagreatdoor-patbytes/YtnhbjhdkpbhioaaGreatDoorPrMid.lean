import Derived.Test.YtnhbjhdkpbhioaaGreatDoorPrParse
import Derived.Test.YtnhbjhdkpbhioaaGreatDoorH4
import Derived.Test.YtnhbjhdkpbhioaaGreatDoorG23
import Derived.Test.YtnhbjhdkpbhioaaGreatDoorG12
import Derived.Test.YtnhbjhdkpbhioaaGreatDoorG9
import Derived.Deep.RegionHeld3
namespace Go.Proofs.YtnhbjhdkpbhioaaGreatDoor
open Go.RowKit
theorem mread_yes (ao : Option Addr) (n cap : Nat) (l : List UInt8) (L : List Nd) (w : World) (hl : l.length = n) (h : IsB w ao l) (hn : n ≤ 65536) (hc : n ≤ cap) (a : Nat) (hs : readQ l = ⟨L, a, 0⟩) :
    Calls Tryz.prog 8 #[.slice ao n cap] w fun e w' => (∃ ao cap, e = .returned (.tuple #[.slice ao L.length cap, .agg #[.slice none 0 0, .int .i64 0]]) ∧ L.length ≤ cap ∧ IsNds w' anyB ao L) ∧ Below w.heap.size w w' := by
  refine (rread_any ao n cap l w hl h hn hc).mono ?_
  rintro e w1 ⟨hb, hr⟩
  rw [hs] at hr
  rcases hr with ⟨_, ao, cap, h1, h2, h3⟩ | ⟨hx, _⟩
  · exact ⟨⟨ao, cap, h1, h2, h3.any⟩, hb⟩
  · exact absurd rfl hx
theorem mread_no (ao : Option Addr) (n cap : Nat) (l : List UInt8) (R : OutN) (w : World) (hl : l.length = n) (h : IsB w ao l) (hn : n ≤ 65536) (hc : n ≤ cap) (hs : readQ l = R) (hf : R.e ≠ 0) :
    Calls Tryz.prog 8 #[.slice ao n cap] w fun e w' => (∃ b, e = .returned (.tuple #[.slice none 0 0, .agg #[.slice (some ⟨b, 0, none⟩) 1 1, .int .i64 R.e]])) ∧ Below w.heap.size w w' := by
  refine (rread_any ao n cap l w hl h hn hc).mono ?_
  rintro e w1 ⟨hb, hr⟩
  rw [hs] at hr
  rcases hr with ⟨hx, _⟩ | ⟨_, b, _, h1, h2⟩
  · exact absurd hx hf
  · exact ⟨⟨b, h1⟩, hb⟩
theorem lt_of_cell11 {w : World} {b o : Nat} {v : Value} (h : w.cell? ⟨b, o, none⟩ = some v) : b < w.heap.size := World.block_lt_of_cell? w ⟨b, o, none⟩ h
def ParF (x : Nd) (w : World) (tn : ByteArray) (po : Option Addr) (pn pc : Nat) (go : Option Addr) (gn gc : Nat) (G : Int) : Prop :=
  (G = 0 ∧ go = none ∧ gn = 0 ∧ gc = 0 ∧ ∃ l, parP T2 x = .ok ⟨tn, l⟩ ∧ l.length = pn ∧ IsTss w po l) ∨
  (∃ (a b : Nat), parP T2 x = .error (a, G) ∧ tn = ⟨#[]⟩ ∧ po = none ∧ pn = 0 ∧ pc = 0 ∧ go = some ⟨b, 0, none⟩ ∧ gn = 1 ∧ gc = 1 ∧ PtAt w b (a : Int))
theorem ParF.next {x : Nd} {w w' : World} {tn : ByteArray} {po : Option Addr} {pn pc : Nat} {go : Option Addr} {gn gc : Nat} {G : Int} (h : ParF x w tn po pn pc go gn gc G) (hb : Below w.heap.size w w') : ParF x w' tn po pn pc go gn gc G := by
  rcases h with ⟨h1, h2, h3, h4, l, h5, h6, h7⟩ | ⟨a, b, h1, h2, h3, h4, h5, h6, h7, h8, h9⟩
  · exact .inl ⟨h1, h2, h3, h4, l, h5, h6, h7.next hb⟩
  · exact .inr ⟨a, b, h1, h2, h3, h4, h5, h6, h7, h8, keep_cell hb h9.1, keep_cell hb h9.2⟩
theorem ParF.off {x : Nd} {w : World} {tn : ByteArray} {po : Option Addr} {pn pc : Nat} {go : Option Addr} {gn gc : Nat} {G : Int} {R : Nat} {c0 c1 : Value} {j : Nat} {v : Value} (h : ParF x w tn po pn pc go gn gc G) (hB : Bx w R #[c0, c1]) (hc : (∃ a b c, c0 = .slice a b c) ∨ (∃ a b c, c1 = .slice a b c)) : ParF x (w.setCell ⟨R, j, none⟩ v) tn po pn pc go gn gc G := by
  rcases h with ⟨h1, h2, h3, h4, l, h5, h6, h7⟩ | ⟨a, b, h1, h2, h3, h4, h5, h6, h7, h8, h9⟩
  · refine .inl ⟨h1, h2, h3, h4, l, h5, h6, ?_⟩
    intro k t ht
    obtain ⟨b, o, e, g0, g1, g2, g3, g4, g5⟩ := h7 k t ht
    have hne : R ≠ b := by
      intro e
      subst e
      rw [hB.cell] at g2
      have : o + k * 6 + 2 < (#[c0, c1] : Array Value).size := by
        rcases Nat.lt_or_ge (o + k * 6 + 2) (#[c0, c1] : Array Value).size with h | h
        · exact h
        · rw [Array.getElem?_eq_none h] at g2; cases g2
      simp at this
      omega
    have far : ∀ q u, w.cell? ⟨b, q, none⟩ = some u → (w.setCell ⟨R, j, none⟩ v).cell? ⟨b, q, none⟩ = some u := fun q u g => (World.cell?_setCell_far _ _ _ _ (by show R ≠ b; exact hne)).trans g
    exact ⟨b, o, e, far _ _ g0, far _ _ g1, far _ _ g2, far _ _ g3, far _ _ g4, far _ _ g5⟩
  · refine .inr ⟨a, b, h1, h2, h3, h4, h5, h6, h7, h8, h9.set ?_⟩
    intro e
    subst e
    obtain ⟨g0, g1⟩ := h9
    rw [hB.cell] at g0 g1
    simp at g0 g1
    rcases hc with ⟨_, _, _, e⟩ | ⟨_, _, _, e⟩
    · rw [e] at g0; cases g0
    · rw [e] at g1; cases g1
theorem ParF.set8 {x : Nd} {w : World} {tn : ByteArray} {po : Option Addr} {pn pc : Nat} {go : Option Addr} {gn gc : Nat} {G : Int} {R : Nat} {s : ByteArray} {a : Option Addr} {b c : Nat} {u v : Value} (h : ParF x w tn po pn pc go gn gc G) (hB : Bx w R #[.string s, .slice a b c]) : ParF x ((w.setCell ⟨R, 0, none⟩ u).setCell ⟨R, 1, none⟩ v) tn po pn pc go gn gc G :=
  (h.off hB (.inr ⟨a, b, c, rfl⟩)).off (hB.set 0 u) (.inr ⟨a, b, c, rfl⟩)
theorem ParF.set9 {x : Nd} {w : World} {tn : ByteArray} {po : Option Addr} {pn pc : Nat} {go : Option Addr} {gn gc : Nat} {G : Int} {R : Nat} {i : Int} {a a' : Option Addr} {b c b' c' : Nat} {v : Value} (h : ParF x w tn po pn pc go gn gc G) (hB : Bx w R #[.slice a b c, .int .i64 i]) : ParF x ((w.setCell ⟨R, 0, none⟩ (.slice a' b' c')).setCell ⟨R, 1, none⟩ v) tn po pn pc go gn gc G :=
  (h.off hB (.inl ⟨a, b, c, rfl⟩)).off (hB.set 0 _) (.inl ⟨a', b', c', rfl⟩)
theorem bx_ne {w : World} {p q : Nat} {s : ByteArray} {x y : Value} {a : Option Addr} {b c : Nat} (h : Bx w p #[.string s, x]) (h2 : Bx w q #[.slice a b c, y]) : p ≠ q := by
  intro e
  subst e
  have h3 := (h.cell 0).symm.trans (h2.cell 0)
  simp at h3
theorem far2 {w : World} {b o p j k : Nat} {u v x : Value} (h : p ≠ b) (hc : w.cell? ⟨b, o, none⟩ = some x) : ((w.setCell ⟨p, j, none⟩ u).setCell ⟨p, k, none⟩ v).cell? ⟨b, o, none⟩ = some x :=
  (World.cell?_setCell_far _ _ _ _ (by show p ≠ b; exact h)).trans ((World.cell?_setCell_far _ _ _ _ (by show p ≠ b; exact h)).trans hc)
theorem rpp_g {x : Nd} {w w' : World} {e : Ending} (h : PrR T2 x w w' e) : (∃ (tn : ByteArray) (po : Option Addr) (pn pc : Nat) (go : Option Addr) (gn gc : Nat) (G : Int), e = .returned (.tuple #[.agg #[.string tn, .slice po pn pc], .agg #[.slice go gn gc, .int .i64 G]]) ∧ ParF x w' tn po pn pc go gn gc G) ∧ Below w.heap.size w w' := by
  refine ⟨?_, h.bel⟩
  rcases h.res with ⟨p, ao, cap, h1, h2, h3⟩ | ⟨a, f, b, h1, h2, h3⟩
  · exact ⟨p.t, ao, p.l.length, cap, none, 0, 0, 0, h2, .inl ⟨rfl, rfl, rfl, rfl, p.l, h1, rfl, h3⟩⟩
  · exact ⟨_, _, 0, 0, some ⟨b, 0, none⟩, 1, 1, f, h2, .inr ⟨a, b, h1, rfl, rfl, rfl, rfl, rfl, rfl, rfl, h3⟩⟩
theorem ParF.err {x : Nd} {w : World} {tn : ByteArray} {po : Option Addr} {pn pc : Nat} {go : Option Addr} {gn gc : Nat} {G : Int} (h : ParF x w tn po pn pc go gn gc G) : G ≠ 0 ∨ (G = 0 ∧ ∃ l, parP T2 x = .ok ⟨tn, l⟩ ∧ l.length = pn ∧ IsTss w po l) := by
  rcases h with ⟨h1, _, _, _, h⟩ | ⟨a, b, h1, _⟩
  · exact .inr ⟨h1, h⟩
  · refine .inl ?_
    rcases (parP_err h1).1 with h | h | h <;> simp only at h <;> omega
structure TwoP (x : Nd) (W0 : World) (tn : ByteArray) (po : Option Addr) (pn pc : Nat) (go : Option Addr) (gn gc : Nat) (G : Int) (p8 p9 : Nat) (w' : World) : Prop where
  bel : Below W0.heap.size W0 w'
  b8 : Bx w' p8 #[.string tn, .slice po pn pc]
  b9 : Bx w' p9 #[.slice go gn gc, .int .i64 G]
  par : ParF x w' tn po pn pc go gn gc G
def OnlyN (R : Act → World → Prop) : Exit → Act → World → Prop
  | .normal, a, w => R a w
  | _, _, _ => False
theorem onlyN {R : Act → World → Prop} {a : Act} {w : World} (h : R a w) : OnlyN R .normal a w := h
theorem region_mid2 {P : Program} {id : Nat} {ops : Array Oper} {b : Bool} {Q : Exit → Act → World → Prop} {a : Act} {w : World} {x : Nd} {W0 : World}
    {F : Option Addr → Nat → ByteArray → Option Addr → Nat → Nat → Option Addr → Nat → Nat → Int → Nat → Nat → Act}
    (h : (Code.region id ops b).wp P (OnlyN fun a' w' => ∃ to tc tn po pn pc go gn gc G p8 p9, a' = F to tc tn po pn pc go gn gc G p8 p9 ∧ TwoP x W0 tn po pn pc go gn gc G p8 p9 w') a w)
    (hQ : ∀ to tc tn po pn pc go gn gc G p8 p9 w', TwoP x W0 tn po pn pc go gn gc G p8 p9 w' → Q .normal (F to tc tn po pn pc go gn gc G p8 p9) w') : (Code.region id ops b).wp P Q a w := by
  refine Code.wp_mono (fun e a w h => ?_) h
  cases e
  case normal =>
    obtain ⟨to, tc, tn, po, pn, pc, go, gn, gc, G, p8, p9, rfl, h2⟩ := h
    exact hQ _ _ _ _ _ _ _ _ _ _ _ _ _ h2
  all_goals exact (h : False).elim
theorem ok_three {T : List Sl} {l : List Ts} (hT : T.length ≤ 2) (h1 : ∀ t ∈ l, OkTs T t) (h2 : l.Pairwise (fun a b => a.p ≠ b.p)) : l.length ≤ 2 := by
  match l, h1, h2 with
  | [], _, _ => simp
  | [a], _, _ => simp
  | [a, b], _, _ => simp
  | a :: b :: c :: r, h1, h2 =>
    have ha := (h1 a (by simp)).lt
    have hb := (h1 b (by simp)).lt
    have hc := (h1 c (by simp)).lt
    rw [List.pairwise_cons] at h2
    obtain ⟨h3, h2⟩ := h2
    rw [List.pairwise_cons] at h2
    have e1 := h3 b (by simp)
    have e2 := h3 c (by simp)
    have e3 := h2.1 c (by simp)
    omega
theorem slots_two {q : Nat} : (slotsAt T2 q).length ≤ 2 := by
  match q with
  | 0 => rw [slots_p]; decide
  | 1 => rw [slots_q]; decide
  | n + 2 => show ([] : List Sl).length ≤ 2; decide
theorem parP_two {x : Nd} {p : Ptn} (h : parP T2 x = .ok p) : p.l.length ≤ 2 := by
  obtain ⟨q, hq⟩ := parP_ok h
  exact ok_three slots_two hq.all hq.one
end Go.Proofs.YtnhbjhdkpbhioaaGreatDoor
