/- Templates, in plain words. -/
import Derived.Laws.OwnMore
import Derived.Laws.AppendOwn
import Derived.Test.YtnhbjhdkpbhioaaGreatDoorG14
import Derived.Test.YtnhbjhdkpbhioaaGreatDoorG2
import Derived.Test.YtnhbjhdkpbhioaaGreatDoorG9
import Derived.Test.YtnhbjhdkpbhioaaGreatDoorG3
import Derived.Test.YtnhbjhdkpbhioaaGreatDoorG13
import Derived.Test.YtnhbjhdkpbhioaaGreatDoorG5
namespace Go.Proofs.YtnhbjhdkpbhioaaGreatDoor
open Go.RowKit

def wTmpl : List UInt8 := [100, 101, 102, 116, 101, 109, 112, 108, 97, 116, 101]
def wSlot : List UInt8 := [115, 108, 111, 116]
def wDef : List UInt8 := [100, 101, 102, 97, 117, 108, 116]
def wNil : List UInt8 := [110, 105, 108]
/-- A slot: its name, its default. -/
structure Sl where
  n : ByteArray
  k : Int
  i : Int
  s : ByteArray
/-- A template. -/
structure Tp where
  n : ByteArray
  l : List Sl
def nameB (x : Nd) : Bool := decide (x.k = 2) && goodB (baL x.s)
/-- What a default's node is. -/
def defV (x : Nd) : Option (Int × Int × ByteArray) :=
  if headN x = wDef then (match x.l with
    | [_, v] => if (valN v).2.2.2 = true then some ((valN v).1, (valN v).2.1, baL (valN v).2.2.1) else none
    | _ => none)
  else none
def slotN (x : Nd) : Option Sl :=
  if headN x = wSlot then (match x.l with
    | [_, m] => if nameB m = true then some ⟨baL m.s, 2, 0, baL wNil⟩ else none
    | [_, m, d] => if nameB m = true then (match defV d with
        | some v => some ⟨baL m.s, v.1, v.2.1, v.2.2⟩
        | none => none) else none
    | _ => none)
  else none
/-- A slot's place, by its name. -/
def placeS : List Sl → ByteArray → Option Nat
  | [], _ => none
  | s :: r, n => if s.n = n then some 0 else (placeS r n).map (· + 1)
def slotR (acc : List Sl) (x : Nd) : Except Int Sl :=
  match slotN x with
  | none => .error 2
  | some s => if (placeS acc s.n).isSome = true then .error 6 else if acc.length = 16 then .error 4 else .ok s
def runT : List Sl → List Nd → Except (Nat × Int) (List Sl)
  | acc, [] => .ok acc
  | acc, x :: r => match slotR acc x with
    | .error e => .error (x.a, e)
    | .ok s => runT (acc ++ [s]) r
def parT (x : Nd) : Except (Nat × Int) Tp :=
  if headN x = wTmpl then (match x.l with
    | _ :: m :: r => if nameB m = true then (match runT [] r with
        | .ok l => .ok ⟨baL m.s, l⟩
        | .error p => .error p) else .error (x.a, 2)
    | _ => .error (x.a, 2))
  else .error (x.a, 2)
/-- .. and back. -/
def tsym (s : List UInt8) : Nd := ⟨2, 0, 0, s, []⟩
def nilS (s : Sl) : Bool := sameB s.k s.i s.s 2 0 (baL wNil)
def valNd (s : Sl) : Nd := ⟨s.k, 0, s.i, s.s.data.toList, []⟩
def defNd (s : Sl) : Nd := ⟨0, 0, 0, [], [tsym wDef, valNd s]⟩
def slotNd (s : Sl) : Nd := ⟨0, 0, 0, [], tsym wSlot :: tsym s.n.data.toList :: (if nilS s = true then [] else [defNd s])⟩
def tmplNd (t : Tp) : Nd := ⟨0, 0, 0, [], tsym wTmpl :: tsym t.n.data.toList :: t.l.map slotNd⟩
theorem ba_self (s : ByteArray) : baL s.data.toList = s := ByteArray.ext (by show s.data.toList.toArray = s.data; simp)
/-- Slots as there may be. -/
structure OkS (s : Sl) : Prop where
  n : goodB s.n = true
  k : s.k = 1 ∨ s.k = 2 ∨ s.k = 3
structure OkT (t : Tp) : Prop where
  n : goodB t.n = true
  all : ∀ s ∈ t.l, OkS s
  len : t.l.length ≤ 16
  one : t.l.Pairwise (fun a b => a.n ≠ b.n)
theorem place_none : ∀ (l : List Sl) (n : ByteArray), placeS l n = none ↔ ∀ s ∈ l, s.n ≠ n
  | [], n => by simp [placeS]
  | s :: r, n => by
    unfold placeS
    by_cases h : s.n = n
    · rw [if_pos h]; simp [h]
    · rw [if_neg h, Option.map_eq_none_iff, place_none r n]; simp [h]
theorem place_some : ∀ (l : List Sl) (n : ByteArray) (p : Nat), placeS l n = some p → ∃ s, l[p]? = some s ∧ s.n = n ∧ ∀ m s', m < p → l[m]? = some s' → s'.n ≠ n
  | [], n, p, h => by simp [placeS] at h
  | s :: r, n, p, h => by
    unfold placeS at h
    by_cases e : s.n = n
    · rw [if_pos e] at h
      cases h
      exact ⟨s, rfl, e, fun m s' hm => absurd hm (by omega)⟩
    · rw [if_neg e] at h
      obtain ⟨q, hq, rfl⟩ := Option.map_eq_some_iff.1 h
      obtain ⟨s', h1, h2, h3⟩ := place_some r n q hq
      refine ⟨s', h1, h2, fun m t hm ht => ?_⟩
      cases m with
      | zero => simp at ht; subst ht; exact e
      | succ m => exact h3 m t (by omega) (by simpa using ht)
theorem place_at : ∀ (l : List Sl) (n : ByteArray) (p : Nat) (s : Sl), l[p]? = some s → s.n = n → (∀ m s', m < p → l[m]? = some s' → s'.n ≠ n) → placeS l n = some p
  | [], n, p, s, h, _, _ => by simp at h
  | x :: r, n, 0, s, h, e, _ => by simp at h; subst h; unfold placeS; rw [if_pos e]
  | x :: r, n, p + 1, s, h, e, hb => by
    unfold placeS
    rw [if_neg (hb 0 x (by omega) rfl), place_at r n p s (by simpa using h) e (fun m s' hm hs => hb (m + 1) s' (by omega) (by simpa using hs))]; rfl
theorem place_lt {l : List Sl} {n : ByteArray} {p : Nat} (h : placeS l n = some p) : p < l.length := by
  obtain ⟨s, h1, _⟩ := place_some l n p h
  exact (List.getElem?_eq_some_iff.1 h1).1
theorem defV_k {x : Nd} {v : Int × Int × ByteArray} (h : defV x = some v) : v.1 = 1 ∨ v.1 = 2 ∨ v.1 = 3 := by
  unfold defV at h
  split at h
  · split at h
    · split at h
      · rename_i y _ hv
        cases h
        unfold valN at hv ⊢
        split at hv
        · rename_i hk; rw [if_pos hk]; exact hk
        · cases hv
      · cases h
    · cases h
  · cases h
theorem slotN_ok {x : Nd} {s : Sl} (h : slotN x = some s) : OkS s := by
  unfold slotN at h
  split at h
  · split at h
    · split at h
      · rename_i m _ hm
        cases h
        unfold nameB at hm
        rw [Bool.and_eq_true] at hm
        exact ⟨hm.2, .inr (.inl rfl)⟩
      · cases h
    · split at h
      · rename_i m d _ hm
        split at h
        · rename_i v hv
          cases h
          unfold nameB at hm
          rw [Bool.and_eq_true] at hm
          exact ⟨hm.2, defV_k hv⟩
        · cases h
      · cases h
    · cases h
  · cases h
theorem slotR_ok {acc : List Sl} {x : Nd} {s : Sl} (h : slotR acc x = .ok s) : slotN x = some s ∧ placeS acc s.n = none ∧ acc.length ≠ 16 := by
  unfold slotR at h
  split at h
  · cases h
  · split at h
    · cases h
    · rename_i hp
      split at h
      · cases h
      · rename_i hl
        cases h
        exact ⟨by assumption, by simpa using hp, hl⟩
theorem runT_ok : ∀ (r : List Nd) (acc l : List Sl), runT acc r = .ok l → (∀ s ∈ acc, OkS s) → acc.length ≤ 16 → acc.Pairwise (fun a b => a.n ≠ b.n) → (∀ s ∈ l, OkS s) ∧ l.length ≤ 16 ∧ l.Pairwise (fun a b => a.n ≠ b.n)
  | [], acc, l, h, h1, h2, h3 => by cases h; exact ⟨h1, h2, h3⟩
  | x :: r, acc, l, h, h1, h2, h3 => by
    unfold runT at h
    split at h
    · cases h
    · rename_i s hs
      obtain ⟨g1, g2, g3⟩ := slotR_ok hs
      rw [place_none] at g2
      refine runT_ok r _ l h ?_ ?_ ?_
      · intro y hy
        rcases List.mem_append.1 hy with hy | hy
        · exact h1 y hy
        · simp at hy; subst hy; exact slotN_ok g1
      · rw [List.length_append]; simp; omega
      · rw [List.pairwise_append]
        refine ⟨h3, List.pairwise_singleton _ _, fun a ha b hb => ?_⟩
        simp at hb; subst hb
        exact g2 a ha
theorem parT_ok {x : Nd} {t : Tp} (h : parT x = .ok t) : OkT t := by
  unfold parT at h
  split at h
  · split at h
    · split at h
      · rename_i m r _ hm
        split at h
        · rename_i l hl
          cases h
          obtain ⟨h1, h2, h3⟩ := runT_ok r [] l hl (by simp) (by simp) List.Pairwise.nil
          unfold nameB at hm
          rw [Bool.and_eq_true] at hm
          exact ⟨hm.2, h1, h2, h3⟩
        · cases h
      · cases h
    · cases h
  · cases h
theorem parT_err {x : Nd} {p : Nat × Int} (h : parT x = .error p) : p.2 = 2 ∨ p.2 = 4 ∨ p.2 = 6 := by
  have hr : ∀ (r : List Nd) (acc : List Sl) (p : Nat × Int), runT acc r = .error p → p.2 = 2 ∨ p.2 = 4 ∨ p.2 = 6 := by
    intro r
    induction r with
    | nil => intro acc p h; cases h
    | cons y r ih =>
      intro acc p h
      unfold runT at h
      split at h
      · rename_i e he
        cases h
        unfold slotR at he
        split at he
        · cases he; exact .inl rfl
        · split at he
          · cases he; exact .inr (.inr rfl)
          · split at he
            · cases he; exact .inr (.inl rfl)
            · cases he
      · exact ih _ _ h
  unfold parT at h
  split at h
  · split at h
    · split at h
      · split at h
        · cases h
        · rename_i hq; cases h; exact hr _ _ _ hq
      · cases h; exact .inl rfl
    · cases h; exact .inl rfl
  · cases h; exact .inl rfl
theorem head_sym (a : Nat) (s : List UInt8) (r : List Nd) : headN ⟨0, a, 0, [], tsym s :: r⟩ = s := rfl
theorem name_sym {n : ByteArray} (h : goodB n = true) : nameB (tsym n.data.toList) = true := by
  unfold nameB tsym
  simp only [ba_self, h]; rfl
theorem defV_back {s : Sl} (h : s.k = 1 ∨ s.k = 2 ∨ s.k = 3) : defV (defNd s) = some (s.k, s.i, s.s) := by
  unfold defV defNd
  rw [if_pos (head_sym _ _ _)]
  have hv : valN (valNd s) = (s.k, s.i, s.s.data.toList, true) := by unfold valN valNd; rw [if_pos h]
  simp only [hv, ba_self]; rfl
theorem slotN_back {s : Sl} (h : OkS s) : slotN (slotNd s) = some s := by
  obtain ⟨n, k, i, t⟩ := s
  have hn : nameB (tsym n.data.toList) = true := name_sym h.n
  cases e : nilS ⟨n, k, i, t⟩ with
  | true =>
    have e' := e
    unfold nilS at e'
    rw [sameB_iff] at e'
    obtain ⟨rfl, rfl, rfl⟩ := e'
    unfold slotN slotNd
    rw [if_pos (head_sym _ _ _), e]
    simp only [if_true, hn]
    show some (Sl.mk (baL n.data.toList) 2 0 (baL wNil)) = _
    rw [ba_self]
  | false =>
    have hd : defV (defNd ⟨n, k, i, t⟩) = some (k, i, t) := defV_back h.k
    unfold slotN slotNd
    rw [if_pos (head_sym _ _ _), e]
    simp only [Bool.false_eq_true, if_false, hn, if_true, hd]
    show some (Sl.mk (baL n.data.toList) k i t) = _
    rw [ba_self]
theorem runT_back : ∀ (l acc : List Sl), (∀ s ∈ l, OkS s) → (acc ++ l).length ≤ 16 → (acc ++ l).Pairwise (fun a b => a.n ≠ b.n) → runT acc (l.map slotNd) = .ok (acc ++ l)
  | [], acc, _, _, _ => by rw [List.append_nil]; rfl
  | s :: r, acc, h1, h2, h3 => by
    have hs : slotR acc (slotNd s) = .ok s := by
      unfold slotR
      rw [slotN_back (h1 s (by simp))]
      have hp : placeS acc s.n = none := by
        rw [place_none]
        intro a ha
        rw [List.pairwise_append] at h3
        exact h3.2.2 a ha s (by simp)
      simp only [hp]
      rw [List.length_append, List.length_cons] at h2
      rw [if_neg (by simp), if_neg (by omega)]
    rw [List.map_cons]
    unfold runT
    rw [hs]
    show runT (acc ++ [s]) (r.map slotNd) = _
    rw [runT_back r (acc ++ [s]) (fun x hx => h1 x (by simp [hx])) (by simpa using h2) (by simpa using h3)]
    simp
theorem parT_back {t : Tp} (h : OkT t) : parT (tmplNd t) = .ok t := by
  unfold parT tmplNd
  rw [if_pos (head_sym _ _ _)]
  simp only [name_sym h.n, if_true]
  rw [runT_back t.l [] h.all (by simpa using h.len) (by simpa using h.one)]
  show Except.ok (Tp.mk (baL t.n.data.toList) ([] ++ t.l)) = _
  rw [ba_self, List.nil_append]
/-- All slots' values. -/
def hasB (done : List ByteArray) (n : ByteArray) : Bool := done.any fun m => decide (m = n)
theorem hasB_iff {done : List ByteArray} {n : ByteArray} : hasB done n = true ↔ n ∈ done := by unfold hasB; simp
def fillL (T : List Sl) : List ByteArray → List Val → List (ByteArray × Val) → Except Int (List Val)
  | _, cur, [] => .ok cur
  | done, cur, (n, v) :: r => match placeS T n with
    | none => .error 5
    | some p => if hasB done n = true then .error 6 else fillL T (done ++ [n]) (cur.set p v) r
def defsS (T : List Sl) : List Val := T.map fun s => ⟨s.k, s.i, s.s⟩
def fillR (T : List Sl) (ns : List ByteArray) (vs : List Val) : Except Int (List Val) :=
  if ns.length = vs.length then fillL T [] (defsS T) (ns.zip vs) else .error 1
theorem fillL_len (T : List Sl) : ∀ (r : List (ByteArray × Val)) (done : List ByteArray) (cur out : List Val), fillL T done cur r = .ok out → out.length = cur.length
  | [], _, cur, out, h => by cases h; rfl
  | (n, v) :: r, done, cur, out, h => by
    unfold fillL at h
    split at h
    · cases h
    · split at h
      · cases h
      · rw [fillL_len T r _ _ _ h, List.length_set]
theorem fillR_len {T : List Sl} {ns : List ByteArray} {vs out : List Val} (h : fillR T ns vs = .ok out) : out.length = T.length := by
  unfold fillR at h
  split at h
  · rw [fillL_len T _ _ _ _ h]; unfold defsS; rw [List.length_map]
  · cases h
/-- A fact in words. -/
def partS (s : Sl) (v : Val) : List UInt8 := 32 :: 40 :: (s.n.data.toList ++ 32 :: ((textS v.k v.i v.s).data.toList ++ [41]))
def textP (l : List (Sl × Val)) : List UInt8 := (l.map fun p => partS p.1 p.2).flatten
def textT (t : Tp) (vs : List Val) : List UInt8 := 40 :: (t.n.data.toList ++ (textP (t.l.zip vs) ++ [41]))
end Go.Proofs.YtnhbjhdkpbhioaaGreatDoor
/- Rows of values, of slots, of texts in memory. -/
namespace Go.Proofs.YtnhbjhdkpbhioaaGreatDoor
open Go.RowKit

/-- A row of values lies behind an address. -/
def IsVals (w : World) (ao : Option Addr) (L : List Val) : Prop :=
  ∀ (j : Nat) (v : Val), L[j]? = some v → ∃ b o, ao = some ⟨b, o, none⟩ ∧ w.cell? ⟨b, o + j * 3, none⟩ = some (.int .i64 v.k) ∧ w.cell? ⟨b, o + j * 3 + 1, none⟩ = some (.int .i64 v.i) ∧ w.cell? ⟨b, o + j * 3 + 2, none⟩ = some (.string v.s)
theorem IsVals.next {w w' : World} {ao : Option Addr} {L : List Val} (h : IsVals w ao L) (hb : Below w.heap.size w w') : IsVals w' ao L := by
  intro j v hj
  obtain ⟨b, o, h0, h1, h2, h3⟩ := h j v hj
  exact ⟨b, o, h0, keep_cell hb h1, keep_cell hb h2, keep_cell hb h3⟩
theorem IsVals.nil (w : World) (ao : Option Addr) : IsVals w ao [] := fun j v hj => by simp at hj
/-- A row of texts. -/
def StrsA (w : World) (ao : Option Addr) (L : List ByteArray) : Prop :=
  ∀ (j : Nat) (s : ByteArray), L[j]? = some s → ∃ b o, ao = some ⟨b, o, none⟩ ∧ w.cell? ⟨b, o + j, none⟩ = some (.string s)
theorem StrsA.next {w w' : World} {ao : Option Addr} {L : List ByteArray} (h : StrsA w ao L) (hb : Below w.heap.size w w') : StrsA w' ao L := by
  intro j v hj
  obtain ⟨b, o, h0, h1⟩ := h j v hj
  exact ⟨b, o, h0, keep_cell hb h1⟩
theorem StrsA.nil (w : World) (ao : Option Addr) : StrsA w ao [] := fun j v hj => by simp at hj
/-- A row of slots. -/
def IsSls (w : World) (ao : Option Addr) (L : List Sl) : Prop :=
  ∀ (j : Nat) (s : Sl), L[j]? = some s → ∃ b o, ao = some ⟨b, o, none⟩ ∧ w.cell? ⟨b, o + j * 4, none⟩ = some (.string s.n) ∧ w.cell? ⟨b, o + j * 4 + 1, none⟩ = some (.int .i64 s.k) ∧ w.cell? ⟨b, o + j * 4 + 2, none⟩ = some (.int .i64 s.i) ∧ w.cell? ⟨b, o + j * 4 + 3, none⟩ = some (.string s.s)
theorem IsSls.next {w w' : World} {ao : Option Addr} {L : List Sl} (h : IsSls w ao L) (hb : Below w.heap.size w w') : IsSls w' ao L := by
  intro j v hj
  obtain ⟨b, o, h0, h1, h2, h3, h4⟩ := h j v hj
  exact ⟨b, o, h0, keep_cell hb h1, keep_cell hb h2, keep_cell hb h3, keep_cell hb h4⟩
theorem IsSls.nil (w : World) (ao : Option Addr) : IsSls w ao [] := fun j v hj => by simp at hj
def vC (v : Val) : List Value := [.int .i64 v.k, .int .i64 v.i, .string v.s]
def valsC (L : List Val) : List Value := L.flatMap vC
theorem valsC_cons (v : Val) (L : List Val) : valsC (v :: L) = vC v ++ valsC L := by unfold valsC; rw [List.flatMap_cons]
theorem valsC_snoc (L : List Val) (v : Val) : valsC L ++ vC v = valsC (L ++ [v]) := by unfold valsC; rw [List.flatMap_append]; simp
theorem valsC_len (L : List Val) : (valsC L).length = L.length * 3 := by
  induction L with
  | nil => rfl
  | cons v L ih => rw [valsC_cons, List.length_append, ih, List.length_cons]; show 3 + _ = _; omega
theorem vals_at : ∀ (L : List Val) (j q : Nat) (t : Val), L[j]? = some t → q < 3 → (valsC L)[j * 3 + q]? = (vC t)[q]?
  | [], j, q, t, h, _ => by simp at h
  | x :: r, 0, q, t, h, hq => by
    simp at h
    subst h
    have hl : (vC x).length = 3 := rfl
    rw [Nat.zero_mul, Nat.zero_add, valsC_cons, List.getElem?_append_left (by omega)]
  | x :: r, j + 1, q, t, h, hq => by
    rw [List.getElem?_cons_succ] at h
    have hl : (vC x).length = 3 := rfl
    rw [valsC_cons, List.getElem?_append_right (by omega), hl, show (j + 1) * 3 + q - 3 = j * 3 + q by omega]
    exact vals_at r j q t h hq
theorem own_vals {w : World} {B T : Nat} {v : Value} {L : List Val} {n : Nat} (hn : L.length = n) (h : w.ownsRow B T 3 v n (valsC L)) : ∃ ao cap, v = .slice ao n cap ∧ IsVals w ao L ∧ n ≤ cap := by
  subst hn
  rcases h.2 with ⟨rfl, h0⟩ | ⟨g, cap, cur, rfl, _, _, hn, _⟩
  · refine ⟨none, 0, by rw [h0], ?_, by omega⟩
    have e : L = [] := List.eq_nil_of_length_eq_zero h0
    subst e
    intro j t hj; simp at hj
  · refine ⟨_, cap, rfl, fun j t hj => ⟨g, 0, rfl, ?_⟩, hn⟩
    have hjl : j < L.length := (List.getElem?_eq_some_iff.1 hj).1
    have hc : ∀ q, q < 3 → w.cell? ⟨g, j * 3 + q, none⟩ = (vC t)[q]? := fun q hq => by
      rw [h.cellAt (j * 3 + q) (by omega), vals_at L j q t hj hq]
    rw [Nat.zero_add]
    exact ⟨hc 0 (by omega), hc 1 (by omega), hc 2 (by omega)⟩
theorem lit_vals (w : World) (b : Nat) (L : List Val) (hb : b = w.heap.size) : IsVals (w.alloc (.cells (valsC L).toArray 71)) (some ⟨b, 0, none⟩) L := by
  intro j v hj
  have hc : ∀ q, q < 3 → (valsC L).toArray[j * 3 + q]? = (vC v)[q]? := fun q hq => by
    rw [List.getElem?_toArray]; exact vals_at L j q v hj hq
  refine ⟨b, 0, rfl, box_cell hb ?_, box_cell hb ?_, box_cell hb ?_⟩
  · have := hc 0 (by decide); simpa [vC] using this
  · have := hc 1 (by decide); rw [show 0 + j * 3 + 1 = j * 3 + 1 by omega, this]; rfl
  · have := hc 2 (by decide); rw [show 0 + j * 3 + 2 = j * 3 + 2 by omega, this]; rfl
theorem infoVal : (Tryz.prog.info? 71).map (fun i => (i.zero, i.size, i.bytes)) = some (some (.agg #[.int .i64 (0), .int .i64 (0), .string (⟨#[]⟩)]), 3, 32) := by kernel_rfl
theorem infoVal' : ∃ i, Tryz.prog.info? 71 = some i ∧ i.zero = some (.agg #[.int .i64 (0), .int .i64 (0), .string (⟨#[]⟩)]) ∧ i.size = 3 ∧ i.bytes = 32 := by
  obtain ⟨i, h, e⟩ := Option.map_eq_some_iff.1 infoVal
  simp only [Prod.mk.injEq] at e
  exact ⟨i, h, e.1, e.2.1, e.2.2⟩
/-- A row of slots that a call owns. -/
def sC (s : Sl) : List Value := [.string s.n, .int .i64 s.k, .int .i64 s.i, .string s.s]
def slsC (L : List Sl) : List Value := L.flatMap sC
theorem slsC_cons (s : Sl) (L : List Sl) : slsC (s :: L) = sC s ++ slsC L := by unfold slsC; rw [List.flatMap_cons]
theorem slsC_snoc (L : List Sl) (s : Sl) : slsC L ++ sC s = slsC (L ++ [s]) := by unfold slsC; rw [List.flatMap_append]; simp
theorem slsC_len (L : List Sl) : (slsC L).length = L.length * 4 := by
  induction L with
  | nil => rfl
  | cons v L ih => rw [slsC_cons, List.length_append, ih, List.length_cons]; show 4 + _ = _; omega
theorem sls_at : ∀ (L : List Sl) (j q : Nat) (t : Sl), L[j]? = some t → q < 4 → (slsC L)[j * 4 + q]? = (sC t)[q]?
  | [], j, q, t, h, _ => by simp at h
  | x :: r, 0, q, t, h, hq => by
    simp at h
    subst h
    have hl : (sC x).length = 4 := rfl
    rw [Nat.zero_mul, Nat.zero_add, slsC_cons, List.getElem?_append_left (by omega)]
  | x :: r, j + 1, q, t, h, hq => by
    rw [List.getElem?_cons_succ] at h
    have hl : (sC x).length = 4 := rfl
    rw [slsC_cons, List.getElem?_append_right (by omega), hl, show (j + 1) * 4 + q - 4 = j * 4 + q by omega]
    exact sls_at r j q t h hq
theorem own_sls {w : World} {B T : Nat} {v : Value} {L : List Sl} {n : Nat} (hn : L.length = n) (h : w.ownsRow B T 4 v n (slsC L)) : ∃ ao cap, v = .slice ao n cap ∧ IsSls w ao L ∧ n ≤ cap := by
  subst hn
  rcases h.2 with ⟨rfl, h0⟩ | ⟨g, cap, cur, rfl, _, _, hn, _⟩
  · refine ⟨none, 0, by rw [h0], ?_, by omega⟩
    have e : L = [] := List.eq_nil_of_length_eq_zero h0
    subst e
    intro j t hj; simp at hj
  · refine ⟨_, cap, rfl, fun j t hj => ⟨g, 0, rfl, ?_⟩, hn⟩
    have hjl : j < L.length := (List.getElem?_eq_some_iff.1 hj).1
    have hc : ∀ q, q < 4 → w.cell? ⟨g, j * 4 + q, none⟩ = (sC t)[q]? := fun q hq => by
      rw [h.cellAt (j * 4 + q) (by omega), sls_at L j q t hj hq]
    rw [Nat.zero_add]
    exact ⟨hc 0 (by omega), hc 1 (by omega), hc 2 (by omega), hc 3 (by omega)⟩
theorem own_tch {R B e size n : Nat} {w w' : World} {v : Value} {xs : List Value} (h : Tch R w w') (ho : w.ownsRow B e size v n xs) (hB : R < B) : w'.ownsRow B e size v n xs := h.own hB ho
def zeroSl : Value := .agg #[.string ⟨#[]⟩, .int .i64 0, .int .i64 0, .string ⟨#[]⟩]
theorem infoSl : (Tryz.prog.info? 143).map (fun i => (i.zero, i.size, i.bytes)) = some (some zeroSl, 4, 48) := by kernel_rfl
theorem infoSl' : ∃ i, Tryz.prog.info? 143 = some i ∧ i.zero = some zeroSl ∧ i.size = 4 ∧ i.bytes = 48 := by
  obtain ⟨i, h, e⟩ := Option.map_eq_some_iff.1 infoSl
  simp only [Prod.mk.injEq] at e
  exact ⟨i, h, e.1, e.2.1, e.2.2⟩
theorem infoRSl : (Tryz.prog.info? 115).map (fun i => (i.zero, i.size, i.bytes)) = some (some zeroSl, 4, 48) := by kernel_rfl
theorem infoRSl' : ∃ i, Tryz.prog.info? 115 = some i ∧ i.zero = some zeroSl ∧ i.size = 4 ∧ i.bytes = 48 := by
  obtain ⟨i, h, e⟩ := Option.map_eq_some_iff.1 infoRSl
  simp only [Prod.mk.injEq] at e
  exact ⟨i, h, e.1, e.2.1, e.2.2⟩
/-- A template as a value. -/
def tmV (t : Tp) (ao : Option Addr) (cap : Nat) : Value := .agg #[.string t.n, .slice ao t.l.length cap]
end Go.Proofs.YtnhbjhdkpbhioaaGreatDoor
/- A node and its kids, by letters; blocks of a call's own. -/
namespace Go.Proofs.YtnhbjhdkpbhioaaGreatDoor
open Go.RowKit

theorem nd_open (x : Nd) (ao : Option Addr) (cap : Nat) : ∃ (K A I : Int) (Y : ByteArray) (M : Nat), Hid (ndV x ao cap = .agg #[.int .i64 (K), .int .i64 (A), .int .i64 (I), .string (Y), .slice ao M cap]) ∧ Hid (x.k = K ∧ (x.a : Int) = A ∧ x.i = I ∧ baL x.s = Y ∧ x.l.length = M) :=
  ⟨_, _, _, _, _, rfl, rfl, rfl, rfl, rfl, rfl⟩
structure KidW (w : World) (b o : Nat) (K A I : Int) (Y : ByteArray) (ao : Option Addr) (M cap : Nat) : Prop where
  c0 : w.cell? ⟨b, o, none⟩ = some (.int .i64 K)
  c1 : w.cell? ⟨b, o + 1, none⟩ = some (.int .i64 A)
  c2 : w.cell? ⟨b, o + 2, none⟩ = some (.int .i64 I)
  c3 : w.cell? ⟨b, o + 3, none⟩ = some (.string Y)
  c4 : w.cell? ⟨b, o + 4, none⟩ = some (.slice ao M cap)
theorem KidW.next {w w' : World} {b o : Nat} {K A I : Int} {Y : ByteArray} {ao : Option Addr} {M cap : Nat} (h : KidW w b o K A I Y ao M cap) (hb : Below w.heap.size w w') : KidW w' b o K A I Y ao M cap :=
  ⟨keep_cell hb h.c0, keep_cell hb h.c1, keep_cell hb h.c2, keep_cell hb h.c3, keep_cell hb h.c4⟩
theorem kid_get {w : World} {ao : Option Addr} {l : List Nd} {j : Nat} {x : Nd} (h : IsNds w anyB ao l) (hj : l[j]? = some x) :
    ∃ (b o : Nat) (ao' : Option Addr) (cap' : Nat) (K A I : Int) (Y : ByteArray) (M : Nat), ao = some ⟨b, o, none⟩ ∧ Hid (ndV x ao' cap' = .agg #[.int .i64 (K), .int .i64 (A), .int .i64 (I), .string (Y), .slice ao' M cap']) ∧ Hid (x.k = K ∧ (x.a : Int) = A ∧ x.i = I ∧ baL x.s = Y ∧ x.l.length = M) ∧
      KidW w b (o + j * 5) K A I Y ao' M cap' ∧ Hid (x.l.length ≤ cap' ∧ IsNds w anyB ao' x.l) := by
  obtain ⟨b, o, ao', cap', h1, h2⟩ := h.at hj
  exact ⟨b, o, ao', cap', _, _, _, _, _, h1, rfl, ⟨rfl, rfl, rfl, rfl, rfl⟩, ⟨h2.c0, h2.c1, h2.c2, h2.c3, h2.c4⟩, h2.hc, h2.kids⟩
/-- A block of cells that is not frozen. -/
def Bx (w : World) (b : Nat) (c : Array Value) : Prop := ∃ T, w.heap[b]? = some (.cells c T (0, 0))
theorem Bx.cell {w : World} {b : Nat} {c : Array Value} (h : Bx w b c) (j : Nat) : w.cell? ⟨b, j, none⟩ = c[j]? := by
  obtain ⟨T, h⟩ := h
  unfold World.cell?; rw [h]; rfl
theorem Bx.froz {w : World} {b : Nat} {c : Array Value} (h : Bx w b c) (j : Nat) : w.frozen? ⟨b, j, none⟩ = false := by
  obtain ⟨T, h⟩ := h
  exact Lib.frozen_of_heap h j
theorem Bx.lt {w : World} {b : Nat} {c : Array Value} (h : Bx w b c) : b < w.heap.size := by
  obtain ⟨T, h⟩ := h
  rcases Nat.lt_or_ge b w.heap.size with h1 | h1
  · exact h1
  · rw [Array.getElem?_eq_none h1] at h; exact absurd h (by simp)
theorem Bx.keep {w w' : World} {b : Nat} {c : Array Value} (h : Bx w b c) (hb : w'.heap[b]? = w.heap[b]?) : Bx w' b c := by
  obtain ⟨T, h⟩ := h
  exact ⟨T, by rw [hb]; exact h⟩
theorem Bx.next {w w' : World} {b : Nat} {c : Array Value} (h : Bx w b c) (hb : Below w.heap.size w w') : Bx w' b c := h.keep (hb.block b h.lt)
theorem Bx.tch {w w' : World} {R b : Nat} {c : Array Value} (h : Bx w b c) (hb : Tch R w w') (hn : b ≠ R) : Bx w' b c := h.keep (hb.block b h.lt hn)
theorem Bx.made (w : World) (T : Nat) (c : Array Value) : Bx (w.alloc (.cells c T)) w.heap.size c := ⟨T, by show (w.heap.push _)[w.heap.size]? = _; rw [Array.getElem?_push_size]⟩
theorem Bx.made' {w w' : World} {T b : Nat} {c : Array Value} (he : w.alloc (.cells c T) = w') (hb : w.heap.size = b) : Bx w' b c := by subst he hb; exact Bx.made w T c
theorem Bx.alloc {w : World} {b : Nat} {c : Array Value} (h : Bx w b c) (o : Obj) : Bx (w.alloc o) b c := h.next (alloc_below _ _)
theorem Bx.set {w : World} {b : Nat} {c : Array Value} (h : Bx w b c) (j : Nat) (u : Value) : Bx (w.setCell ⟨b, j, none⟩ u) b (c.setIfInBounds j u) := by
  obtain ⟨T, h⟩ := h
  exact ⟨T, by simp [World.setCell, Array.getElem?_modify, h]⟩
theorem Bx.off {w : World} {b k : Nat} {c : Array Value} (h : Bx w b c) (hn : b ≠ k) (j : Nat) (u : Value) : Bx (w.setCell ⟨k, j, none⟩ u) b c := h.keep (Below.heap_setCell _ _ _ _ hn)
theorem IsNds.set {w : World} {B k j : Nat} {ao : Option Addr} {l : List Nd} {u : Value} (h : IsNds w (geB B) ao l) (hk : k < B) : IsNds (w.setCell ⟨k, j, none⟩ u) (geB B) ao l :=
  h.keep fun i hi _ => ⟨Below.heap_setCell _ _ _ _ (by show i ≠ k; unfold geB at hi; omega), hi⟩
theorem set_size (w : World) (p : Addr) (u : Value) : (w.setCell p u).heap.size = w.heap.size := by simp [World.setCell]
/-- Blocks of the call's own are written. -/
theorem set_bel {w w1 : World} {B k j : Nat} {u : Value} (h : Below B w w1) (hk : B ≤ k) : Below B w (w1.setCell ⟨k, j, none⟩ u) := h.setCell (p := ⟨k, j, none⟩) hk u
theorem IsSls.set {w : World} {R j : Nat} {ao : Option Addr} {L : List Sl} {u : Value} (h : IsSls w ao L) (hR : ∀ b o, ao = some ⟨b, o, none⟩ → b ≠ R) : IsSls (w.setCell ⟨R, j, none⟩ u) ao L := by
  intro i v hi
  obtain ⟨b, o, h0, h1, h2, h3, h4⟩ := h i v hi
  have hb := Below.heap_setCell w ⟨R, j, none⟩ u b (hR b o h0)
  exact ⟨b, o, h0, by rw [World.cell?_of_block (a := ⟨b, _, none⟩) hb]; exact h1, by rw [World.cell?_of_block (a := ⟨b, _, none⟩) hb]; exact h2, by rw [World.cell?_of_block (a := ⟨b, _, none⟩) hb]; exact h3, by rw [World.cell?_of_block (a := ⟨b, _, none⟩) hb]; exact h4⟩
theorem below_drawn {B : Nat} {w w1 : World} (h : Below B w w1) (n : Nat) : Below B w (w1.drewN n) := ⟨h.os, h.tape, h.output, h.size, h.block⟩
theorem below_undrawn {B : Nat} {w w1 : World} (h : Below B w.drew w1) : Below B w w1 := ⟨h.os, h.tape, h.output, h.size, h.block⟩
theorem s_ne {Y : ByteArray} {l s : List UInt8} (H : Hid (baL l = Y)) (h : l ≠ s) : (Y.toList == s) = false := by
  rw [← H.out, Lib.toList_data]
  cases e : ((baL l).data.toList == s)
  · rfl
  · rw [beq_iff_eq] at e; exact absurd e h
theorem s_eq {Y : ByteArray} {l s : List UInt8} (H : Hid (baL l = Y)) (h : l = s) : (Y.toList == s) = true := by
  rw [← H.out, Lib.toList_data, beq_iff_eq]; exact h
end Go.Proofs.YtnhbjhdkpbhioaaGreatDoor
/- Package tmpl: names, faults, defaults, a slot's node. -/
namespace Go.Proofs.YtnhbjhdkpbhioaaGreatDoor
open Go.RowKit

theorem good_lt {Y : ByteArray} {l : List UInt8} (H : baL l = Y) (h : l.length ≤ 300000) : Y.size ≤ maxLen := by
  subst H; unfold maxLen; show l.length ≤ _; omega
/-- A block of three cells, fresh, behind a call. -/
theorem fresh_bx {w w1 : World} {T : Nat} {c : Array Value} (hb : Below (w.alloc (.cells c T)).heap.size (w.alloc (.cells c T)) w1) : Bx w1 w.heap.size c := (Bx.made w T c).next hb
end Go.Proofs.YtnhbjhdkpbhioaaGreatDoor
/- Package tmpl: a default's node. -/
namespace Go.Proofs.YtnhbjhdkpbhioaaGreatDoor
open Go.RowKit

def defW (x : Nd) : Val × Bool := match defV x with
  | some v => (⟨v.1, v.2.1, v.2.2⟩, true)
  | none => (⟨0, 0, ⟨#[]⟩⟩, false)
theorem defW_head {x : Nd} (h : headN x ≠ wDef) : defW x = (⟨0, 0, ⟨#[]⟩⟩, false) := by unfold defW defV; rw [if_neg h]
theorem defW_len {x : Nd} (h : x.l.length ≠ 2) : defW x = (⟨0, 0, ⟨#[]⟩⟩, false) := by
  unfold defW defV
  split
  · rename_i v hv
    split at hv
    · split at hv
      · rename_i e; rw [e] at h; exact absurd rfl h
      · cases hv
    · cases hv
  · rfl
theorem defW_yes {x v : Nd} (h : headN x = wDef) (hl : x.l.length = 2) (h1 : x.l[1]? = some v) : defW x = (⟨(valN v).1, (valN v).2.1, baL (valN v).2.2.1⟩, (valN v).2.2.2) := by
  obtain ⟨k, a, i, s, l⟩ := x
  simp only at hl h1
  match l, hl, h1 with
  | [u, v'], _, h1 =>
    simp at h1
    subst h1
    unfold defW defV
    rw [if_pos h]
    simp only
    cases e : (valN v').2.2.2 with
    | true => rfl
    | false =>
      have : valN v' = (0, 0, [], false) := by
        unfold valN at e ⊢
        split
        · rename_i hk; rw [if_pos hk] at e; cases e
        · rfl
      rw [this]; rfl
theorem kid_at {l : List Nd} {j : Nat} (h : j < l.length) : ∃ y, l[j]? = some y := ⟨_, List.getElem?_eq_getElem h⟩

end Go.Proofs.YtnhbjhdkpbhioaaGreatDoor
/- Package tmpl: a slot's node. -/
namespace Go.Proofs.YtnhbjhdkpbhioaaGreatDoor
open Go.RowKit

def sl0 : Sl := ⟨⟨#[]⟩, 0, 0, ⟨#[]⟩⟩
def slotW (x : Nd) : Sl × Bool := match slotN x with
  | some s => (s, true)
  | none => (sl0, false)
theorem slotW_head {x : Nd} (h : headN x ≠ wSlot) : slotW x = (sl0, false) := by unfold slotW slotN; rw [if_neg h]
theorem slotW_len {x : Nd} (h : x.l.length < 2 ∨ 3 < x.l.length) : slotW x = (sl0, false) := by
  obtain ⟨k, a, i, s, l⟩ := x
  simp only at h
  unfold slotW slotN
  split
  · rename_i s' hs
    split at hs
    · match l, h with
      | [], _ => cases hs
      | [_], _ => cases hs
      | [_, _], h => simp at h
      | [_, _, _], h => simp at h
      | _ :: _ :: _ :: _ :: _, _ => cases hs
    · cases hs
  · rfl
theorem slotW_name {x m : Nd} (h1 : x.l[1]? = some m) (hn : nameB m = false) : slotW x = (sl0, false) := by
  obtain ⟨k, a, i, s, l⟩ := x
  simp only at h1
  unfold slotW slotN
  split
  · rename_i s' hs
    split at hs
    · match l, h1 with
      | [], h1 => simp at h1
      | [_], h1 => simp at h1
      | [_, y], h1 => simp at h1; subst h1; simp [hn] at hs
      | [_, y, _], h1 => simp at h1; subst h1; simp [hn] at hs
      | _ :: _ :: _ :: _ :: _, _ => cases hs
    · cases hs
  · rfl
theorem slotW_two {x m : Nd} (h : headN x = wSlot) (hl : x.l.length = 2) (h1 : x.l[1]? = some m) (hn : nameB m = true) : slotW x = (⟨baL m.s, 2, 0, baL wNil⟩, true) := by
  obtain ⟨k, a, i, s, l⟩ := x
  simp only at h1 hl
  match l, hl, h1 with
  | [u, y], _, h1 =>
    simp at h1; subst h1
    unfold slotW slotN
    rw [if_pos h]
    simp [hn]
theorem slotW_three {x m d : Nd} {v : Val} {q : Bool} (h : headN x = wSlot) (hl : x.l.length = 3) (h1 : x.l[1]? = some m) (h2 : x.l[2]? = some d) (hn : nameB m = true) (hd : defW d = (v, q)) : slotW x = if q = true then (⟨baL m.s, v.k, v.i, v.s⟩, true) else (sl0, false) := by
  obtain ⟨k, a, i, s, l⟩ := x
  simp only at h1 h2 hl
  match l, hl, h1, h2 with
  | [u, y, z], _, h1, h2 =>
    simp at h1 h2; subst h1 h2
    unfold slotW slotN
    rw [if_pos h]
    unfold defW at hd
    cases e : defV z with
    | some p =>
      rw [e] at hd
      simp only [Prod.mk.injEq] at hd
      obtain ⟨hd1, hd2⟩ := hd
      subst hd1 hd2
      simp [hn, e]
    | none =>
      rw [e] at hd
      simp only [Prod.mk.injEq] at hd
      obtain ⟨hd1, hd2⟩ := hd
      subst hd1 hd2
      simp [hn, e]
def slV (s : Sl) : Value := .agg #[.string s.n, .int .i64 s.k, .int .i64 s.i, .string s.s]

end Go.Proofs.YtnhbjhdkpbhioaaGreatDoor
/- Package tmpl: a slot's place; the slot that comes next. -/
namespace Go.Proofs.YtnhbjhdkpbhioaaGreatDoor
open Go.RowKit

def placeI (l : List Sl) (n : ByteArray) : Int := (((placeS l n).getD 0 : Nat) : Int)
theorem placeI_at {l : List Sl} {n : ByteArray} {p : Nat} (h : placeS l n = some p) : placeI l n = (p : Int) := by unfold placeI; rw [h]; rfl
theorem ret_ib {a b : Int} {p q : Bool} (h : a = b) (h2 : p = q) : Ending.returned (.tuple #[.int .i64 a, .bool p]) = .returned (.tuple #[.int .i64 b, .bool q]) := by rw [h, h2]

set_option maxHeartbeats 2000000 in
set_option maxRecDepth 8000 in
theorem tslot_any (t : Tp) (ao : Option Addr) (cap : Nat) (n : ByteArray) (w : World) (hN : t.l.length ≤ 1000) (h : IsSls w ao t.l) :
    Calls Tryz.prog 83 #[tmV t ao cap, .string n] w fun e w' => e = .returned (.tuple #[.int .i64 (placeI t.l n), .bool (placeS t.l n).isSome]) ∧ Below w.heap.size w w' := by
  unfold tmV
  obtain ⟨tn, l⟩ := t
  simp only at hN h ⊢
  obtain ⟨N, HN⟩ : ∃ N, Hid (l.length = N) := ⟨_, rfl⟩
  obtain ⟨Q, HQ⟩ : ∃ Q, Hid (placeS l n = Q) := ⟨_, rfl⟩
  obtain ⟨P, HP⟩ : ∃ P, Hid (placeI l n = P) := ⟨_, rfl⟩
  rw [HN.out, HQ.out, HP.out]
  rw [HN.out] at hN
  have HI : Hid (IsSls w ao l) := h
  clear h
  go_enter Tryz.func83, Tryz.ntmps83
  go_wp2
  obtain ⟨W0, hW0⟩ : ∃ W0, w.alloc (.cells #[.string tn, .slice ao N cap] 108) = W0 := ⟨_, rfl⟩
  have HB0 : Hid (Below w.heap.size w W0) := by rw [← hW0]; exact alloc_below _ _
  rw [hW0]
  clear hW0
  go_loopw [11] (fun q wr => ∃ k : Nat, k ≤ N ∧ q = .int .i64 k ∧ Hid (Below w.heap.size w wr) ∧ Hid (∀ m s, m < k → l[m]? = some s → s.n ≠ n)) (fun q _ => N - (intOf q).toNat)
  case atStart => exact ⟨0, Nat.zero_le _, rfl, HB0, fun m s hm => absurd hm (by omega)⟩
  case round =>
    obtain ⟨k, hk, rfl, HB, HM⟩ := hrel
    clear HB0
    by_cases hlt : k < N
    · have hki : (k : Int) < (N : Int) := by omega
      have hk0 : (0 : Int) ≤ (k : Int) := by omega
      obtain ⟨s, hs⟩ : ∃ s, l[k]? = some s := ⟨_, List.getElem?_eq_getElem (by rw [HN.out]; exact hlt)⟩
      obtain ⟨b, o, rfl, c0, c1, c2, c3⟩ := (HI.out.next HB.out) k s hs
      have HS : Hid (l[k]? = some s) := hs
      obtain ⟨sn, sk, si, ss⟩ := s
      simp only at c0 c1 c2 c3
      have HBn : Hid (Below w.heap.size w (wr.alloc (.cells #[.string sn, .int .i64 sk, .int .i64 si, .string ss] 143))) := next_trans HB.out (alloc_below _ _)
      clear hs
      by_cases he : sn = n
      · have hd : (sn.toList == n.toList) = true := by rw [beq_ba]; exact decide_eq_true he
        have hq : placeS l n = some k := place_at l n k _ HS.out he HM.out
        obtain rfl : Q = some k := by rw [← HQ.out, hq]
        obtain rfl : P = (k : Int) := by rw [← HP.out, placeI_at hq]
        clear HM HS he hq HQ HP HI
        go_wp2
        go_ret2
        exact ⟨rfl, HBn.out⟩
      · have hd : (sn.toList == n.toList) = false := by rw [beq_ba]; exact decide_eq_false he
        have HM2 : Hid (∀ m s, m < k + 1 → l[m]? = some s → s.n ≠ n) := fun m s hm hms => by
          by_cases e : m = k
          · subst e; rw [HS.out] at hms; cases hms; exact he
          · exact HM.out m s (by omega) hms
        clear HM HS he
        go_wp2
        go_roundw
        case rel => exact ⟨k + 1, by omega, by go_num, HBn, HM2⟩
        case measure => simp [intOf]; omega
    · have hki : ¬ (k : Int) < (N : Int) := by omega
      have hq : placeS l n = none := (place_none l n).2 fun s hs => by
        obtain ⟨m, hm⟩ := List.getElem?_of_mem hs
        exact HM.out m s (by have := (List.getElem?_eq_some_iff.1 hm).1; rw [HN.out] at this; omega) hm
      obtain rfl : Q = none := by rw [← HQ.out, hq]
      obtain rfl : P = 0 := by rw [← HP.out]; unfold placeI; rw [hq]; rfl
      clear HM hq HQ HP HI
      go_wp2
      go_ret2
      exact ⟨rfl, HB.out⟩
def slotE (acc : List Sl) (x : Nd) : Sl × Int := match slotR acc x with
  | .ok s => (s, 0)
  | .error e => (sl0, e)
theorem slotE_form {acc : List Sl} {x : Nd} (h : (slotW x).2 = false) : slotE acc x = (sl0, 2) := by
  unfold slotE slotR
  unfold slotW at h
  split at h
  · cases h
  · rename_i e; rw [e]
theorem slotE_any {acc : List Sl} {x : Nd} {s : Sl} (h : slotW x = (s, true)) : slotE acc x = if (placeS acc s.n).isSome = true then (sl0, 6) else if acc.length = 16 then (sl0, 4) else (s, 0) := by
  unfold slotE slotR
  unfold slotW at h
  split at h
  · rename_i s' e
    cases h
    rw [e]
    simp only
    split <;> rename_i h1
    · split at h1
      · cases h1
      · rename_i g1
        split at h1
        · cases h1
        · rename_i g2; cases h1; rw [if_neg g1, if_neg g2]
    · split at h1
      · rename_i g1; cases h1; rw [if_pos g1]
      · rename_i g1
        split at h1
        · rename_i g2; cases h1; rw [if_neg g1, if_pos g2]
        · cases h1
  · cases h

end Go.Proofs.YtnhbjhdkpbhioaaGreatDoor
