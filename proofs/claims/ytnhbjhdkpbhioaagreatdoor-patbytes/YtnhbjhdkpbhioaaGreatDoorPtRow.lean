import Derived.Test.YtnhbjhdkpbhioaaGreatDoorH3
import Derived.Test.YtnhbjhdkpbhioaaGreatDoorTmDfO
import Derived.Lib.SliceRun
namespace Go.Proofs.YtnhbjhdkpbhioaaGreatDoor
open Go.RowKit
theorem slsC_one : ∀ (L : List Sl), ∀ u ∈ slsC L, u.oneCell' = true
  | [], u, h => by simp [slsC] at h
  | v :: L, u, h => by
    rw [slsC_cons, List.mem_append] at h
    rcases h with h | h
    · simp [sC] at h
      rcases h with rfl | rfl | rfl | rfl <;> rfl
    · exact slsC_one L u h
theorem cells_sls {w : World} {b o : Nat} {L : List Sl} (h : IsSls w (some ⟨b, o, none⟩) L) : ∀ j u, (slsC L)[j]? = some u → w.cell? ((⟨b, o, none⟩ : Addr).add j) = some u := by
  intro j u hj
  have hl := (List.getElem?_eq_some_iff.1 hj).1
  rw [slsC_len] at hl
  obtain ⟨q, r, hr, rfl⟩ : ∃ q r, r < 4 ∧ j = q * 4 + r := ⟨j / 4, j % 4, by omega, by omega⟩
  have hq : q < L.length := by omega
  have hv : L[q]? = some L[q] := List.getElem?_eq_getElem hq
  obtain ⟨b', o', e, c0, c1, c2, c3⟩ := h q _ hv
  obtain ⟨rfl, rfl⟩ : b' = b ∧ o' = o := by injection e with h; injection h with h1 h2; exact ⟨h1.symm, h2.symm⟩
  rw [sls_at L q r _ hv hr] at hj
  have hadd : (⟨b', o', none⟩ : Addr).add (q * 4 + r) = ⟨b', o' + q * 4 + r, none⟩ := by unfold Addr.add; split <;> simp_all <;> omega
  rw [hadd]
  match r, hr, hj with
  | 0, _, hj => simp [sC] at hj; rw [← hj]; exact c0
  | 1, _, hj => simp [sC] at hj; rw [← hj]; exact c1
  | 2, _, hj => simp [sC] at hj; rw [← hj]; exact c2
  | 3, _, hj => simp [sC] at hj; rw [← hj]; exact c3
theorem strsC_one : ∀ (L : List ByteArray), ∀ u ∈ strsC L, u.oneCell' = true := fun L u h => by
  unfold strsC at h
  rw [List.mem_map] at h
  obtain ⟨a, _, rfl⟩ := h
  rfl
theorem cells_strs {w : World} {b o : Nat} {L : List ByteArray} (h : StrsA w (some ⟨b, o, none⟩) L) : ∀ j u, (strsC L)[j]? = some u → w.cell? ((⟨b, o, none⟩ : Addr).add j) = some u := by
  intro j u hj
  unfold strsC at hj
  rw [List.getElem?_map, Option.map_eq_some_iff] at hj
  obtain ⟨s, hs, rfl⟩ := hj
  obtain ⟨b', o', e, c0⟩ := h j s hs
  obtain ⟨rfl, rfl⟩ : b' = b ∧ o' = o := by injection e with h; injection h with h1 h2; exact ⟨h1.symm, h2.symm⟩
  have hadd : (⟨b', o', none⟩ : Addr).add j = ⟨b', o' + j, none⟩ := by unfold Addr.add; split <;> simp_all
  rw [hadd]; exact c0
theorem own_base {w : World} {B B' e size n : Nat} {v : Value} {xs : List Value} (h : w.ownsRow B e size v n xs) (hB : B' ≤ B) : w.ownsRow B' e size v n xs := by
  refine ⟨h.1, ?_⟩
  rcases h.2 with h | ⟨g, cap, cur, h1, h2, h3⟩
  · exact .inl h
  · exact .inr ⟨g, cap, cur, h1, Nat.le_trans hB h2, h3⟩
theorem wpList_append_runB (w : World) {ops : Array Oper} {rest : List Oper} {o : Oper} {a : Act} {Q : Exit → Act → World → Prop} (hgd : o.guard = none) (s x : Operand) (t : TypeId)
    (ho : o.op = .call { callee := .builtin .append, args := #[s, x], argTypes := #[t, t] }) (v xv v' : Value) (w' : World) (hs : a.eval s = v) (hx : a.eval x = xv)
    (hr : (Builtin.append_ #[t, t] o.type #[v, xv]).run Tryz.prog w = .ok v' w') (h : wpList Tryz.prog ops Q rest (a.put o.dst v') w') : wpList Tryz.prog ops Q (o :: rest) a w :=
  wpList_plain hgd fun _ hK => by
    unfold Oper.wp execOp
    simp only [ho, resolve, invoke, builtin, Sem.run_bind, Sem.run_pure, Result.andThen_ok, List.map_toArray, List.map_cons, List.map_nil, hs, hx, hr]
    exact hK _ _ h
theorem append_bd {w : World} {base n : Nat} {v : Value} {xs : List Value} {ao : Option Addr} {N cap : Nat} {L : List Sl} (hown : w.ownsRow base 91 4 v n xs) (hN : L.length = N) (hv : IsSls w ao L) (hc : ao = none → N = 0 ∧ cap = 0) (hn : n ≤ 1000) (hN2 : N ≤ 1000) (hb : base ≤ w.heap.size) :
    ∃ v' w', (Builtin.append_ #[67, 67] 67 #[v, .slice ao N cap]).run Tryz.prog w = .ok v' w' ∧ w'.ownsRow base 91 4 v' (n + N) (xs ++ slsC L) ∧ w.grownBy w' v.ownBlock := by
  obtain ⟨i0, hi, hz0, hz1, hz2⟩ := infoBd'
  cases ao with
  | none =>
    obtain ⟨rfl, rfl⟩ := hc rfl
    have e : L = [] := List.eq_nil_of_length_eq_zero hN
    subst e
    refine ⟨v, w, run_append_owned_none w base 67 67 91 i0 4 Tryz.underlying67 hi v n xs hown, ?_, World.grownBy.refl _ _⟩
    show w.ownsRow base 91 4 v n (xs ++ [])
    rw [List.append_nil]
    exact hown
  | some a =>
    have hcell : ∀ j u, (slsC L)[j]? = some u → w.cell? (a.add j) = some u := by
      cases L with
      | nil => intro j u hj; simp [slsC] at hj
      | cons v0 L0 =>
        obtain ⟨b, o, e, _⟩ := hv 0 v0 rfl
        obtain rfl : a = ⟨b, o, none⟩ := Option.some.inj e
        exact cells_sls hv
    obtain ⟨v', w', h1, h2, h3, _⟩ := run_append_own (P := Tryz.prog) w base 67 67 91 i0 zeroSl 4 48 Tryz.underlying67 hi hz0 hz1 hz2 rfl (by decide) v n xs hown a N cap (slsC L) (by rw [slsC_len, hN]) hcell (slsC_one L) (by unfold maxLen; omega) (by omega) hb
    exact ⟨v', w', h1, h2, h3⟩
theorem append_rbd {w : World} {base n : Nat} {v : Value} {xs : List Value} {ao : Option Addr} {N cap : Nat} {L : List Sl} (hown : w.ownsRow base 158 4 v n xs) (hN : L.length = N) (hv : IsSls w ao L) (hc : ao = none → N = 0 ∧ cap = 0) (hn : n ≤ 1000) (hN2 : N ≤ 1000) (hb : base ≤ w.heap.size) :
    ∃ v' w', (Builtin.append_ #[78, 78] 78 #[v, .slice ao N cap]).run Tryz.prog w = .ok v' w' ∧ w'.ownsRow base 158 4 v' (n + N) (xs ++ slsC L) ∧ w.grownBy w' v.ownBlock := by
  obtain ⟨i0, hi, hz0, hz1, hz2⟩ := infoRBd'
  cases ao with
  | none =>
    obtain ⟨rfl, rfl⟩ := hc rfl
    have e : L = [] := List.eq_nil_of_length_eq_zero hN
    subst e
    refine ⟨v, w, run_append_owned_none w base 78 78 158 i0 4 Tryz.underlying78 hi v n xs hown, ?_, World.grownBy.refl _ _⟩
    show w.ownsRow base 158 4 v n (xs ++ [])
    rw [List.append_nil]
    exact hown
  | some a =>
    have hcell : ∀ j u, (slsC L)[j]? = some u → w.cell? (a.add j) = some u := by
      cases L with
      | nil => intro j u hj; simp [slsC] at hj
      | cons v0 L0 =>
        obtain ⟨b, o, e, _⟩ := hv 0 v0 rfl
        obtain rfl : a = ⟨b, o, none⟩ := Option.some.inj e
        exact cells_sls hv
    obtain ⟨v', w', h1, h2, h3, _⟩ := run_append_own (P := Tryz.prog) w base 78 78 158 i0 zeroSl 4 48 Tryz.underlying78 hi hz0 hz1 hz2 rfl (by decide) v n xs hown a N cap (slsC L) (by rw [slsC_len, hN]) hcell (slsC_one L) (by unfold maxLen; omega) (by omega) hb
    exact ⟨v', w', h1, h2, h3⟩
theorem append_strs {w : World} {base n : Nat} {v : Value} {xs : List Value} {ao : Option Addr} {N cap : Nat} {L : List ByteArray} (hown : w.ownsRow base 9 1 v n xs) (hN : L.length = N) (hv : StrsA w ao L) (hc : ao = none → N = 0 ∧ cap = 0) (hn : n ≤ 1000) (hN2 : N ≤ 1000) (hb : base ≤ w.heap.size) :
    ∃ v' w', (Builtin.append_ #[61, 61] 61 #[v, .slice ao N cap]).run Tryz.prog w = .ok v' w' ∧ w'.ownsRow base 9 1 v' (n + N) (xs ++ strsC L) ∧ w.grownBy w' v.ownBlock := by
  obtain ⟨i0, hi, hz0, hz1, hz2⟩ := infoStr'
  cases ao with
  | none =>
    obtain ⟨rfl, rfl⟩ := hc rfl
    have e : L = [] := List.eq_nil_of_length_eq_zero hN
    subst e
    refine ⟨v, w, run_append_owned_none w base 61 61 9 i0 1 Tryz.underlying61 hi v n xs hown, ?_, World.grownBy.refl _ _⟩
    show w.ownsRow base 9 1 v n (xs ++ [])
    rw [List.append_nil]
    exact hown
  | some a =>
    have hcell : ∀ j u, (strsC L)[j]? = some u → w.cell? (a.add j) = some u := by
      cases L with
      | nil => intro j u hj; simp [strsC] at hj
      | cons v0 L0 =>
        obtain ⟨b, o, e, _⟩ := hv 0 v0 rfl
        obtain rfl : a = ⟨b, o, none⟩ := Option.some.inj e
        exact cells_strs hv
    obtain ⟨v', w', h1, h2, h3, _⟩ := run_append_own (P := Tryz.prog) w base 61 61 9 i0 (.string ⟨#[]⟩) 1 16 Tryz.underlying61 hi hz0 hz1 hz2 rfl (by decide) v n xs hown a N cap (strsC L) (by rw [strsC, List.length_map, hN, Nat.mul_one]) hcell (strsC_one L) (by unfold maxLen; omega) (by omega) hb
    exact ⟨v', w', h1, h2, h3⟩
set_option maxHeartbeats 1000000 in
theorem cloneb_any (ao : Option Addr) (cap N : Nat) (L : List Sl) (w : World) (hN : L.length = N) (hv : IsSls w ao L) (hc : ao = none → N = 0 ∧ cap = 0) (hm : N ≤ 1000) :
    Calls Tryz.prog 69 #[.slice ao N cap] w fun e w' => ∃ a' c', e = .returned (.slice a' N c') ∧ w'.ownsRow w.heap.size 91 4 (.slice a' N c') N (slsC L) ∧ Below w.heap.size w w' := by
  have q := fun (w : World) (a : Option Addr) (n c n' c' : Nat) => Lib.run_eql_slice_nil (P := Tryz.prog) w 67 91 a n c n' c' Tryz.underlying67
  cases ao with
  | none =>
    obtain ⟨rfl, rfl⟩ := hc rfl
    have e : L = [] := List.eq_nil_of_length_eq_zero hN
    subst e
    clear hv hc hN
    go_enter Tryz.func69, Tryz.ntmps69
    go_wp2
    go_ret
    exact ⟨none, 0, rfl, World.ownsRow_nil _ _ _ _, Below.refl _ _⟩
  | some a =>
    have hv1 : IsSls (w.alloc (.cells #[] 91)) (some a) L := hv.next (alloc_below _ _)
    obtain ⟨v', w', hr, hown, hg⟩ := append_bd (cap := cap) (World.ownsRow_made w #[] 0 (Nat.le_refl _) (Nat.zero_le _) (by simp)) hN hv1 (fun h => by cases h) (by omega) hm (by simp)
    rw [Nat.zero_add, List.nil_append] at hown
    obtain ⟨a', c', rfl, _, _⟩ := own_sls hN hown
    have HB : Hid (Below w.heap.size w w') := ((Below.refl _ w).alloc (Nat.le_refl _) _).grown hg (by simp) (by intro k hk; simp [Value.ownBlock] at hk; omega)
    have HV : Hid (w'.ownsRow w.heap.size 91 4 (.slice a' N c') N (slsC L)) := hown
    clear hv hv1 hown hg
    go_enter Tryz.func69, Tryz.ntmps69
    go_wp2_with (at_builtin; refine wpList_append_runB _ rfl _ _ 67 rfl _ _ _ _ rfl rfl hr ?_)
    go_ret
    exact ⟨a', c', rfl, HV.out, HB.out⟩
end Go.Proofs.YtnhbjhdkpbhioaaGreatDoor
