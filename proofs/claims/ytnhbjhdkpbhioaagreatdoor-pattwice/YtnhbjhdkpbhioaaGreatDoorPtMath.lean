/- Patterns, in plain words. -/
import Derived.Test.YtnhbjhdkpbhioaaGreatDoorG23
namespace Go.Proofs.YtnhbjhdkpbhioaaGreatDoor
open Go.RowKit

/-- A test: its slot, whether it is turned, its variable, its value. -/
structure Ts where
  p : Nat
  n : Bool
  v : ByteArray
  k : Int
  i : Int
  s : ByteArray
/-- A pattern. -/
structure Ptn where
  t : ByteArray
  l : List Ts
def noS : ByteArray := ⟨#[]⟩
def headO (x : Nd) : Option (List UInt8) := if x.k = 0 then (match x.l with | y :: _ => if y.k = 2 then some y.s else none | [] => none) else none
def plainN (x : Nd) : Option Ts :=
  if x.k = 6 then (if x.s = [] then none else some ⟨0, false, baL x.s, 0, 0, noS⟩)
  else if (valN x).2.2.2 = true then some ⟨0, false, noS, (valN x).1, (valN x).2.1, baL (valN x).2.2.1⟩ else none
def notTs (t : Ts) : Ts := ⟨t.p, true, t.v, t.k, t.i, t.s⟩
def atTs (p : Nat) (t : Ts) : Ts := ⟨p, t.n, t.v, t.k, t.i, t.s⟩
def termN (x : Nd) : Option Ts :=
  if x.k = 8 then (match x.l with | [y] => (plainN y).map notTs | _ => none) else plainN x
def hasP (acc : List Ts) (p : Nat) : Bool := acc.any fun t => decide (t.p = p)
def nextR (T : List Sl) (acc : List Ts) (x : Nd) : Except Int Ts :=
  match headO x with
  | none => .error 2
  | some h => match x.l with
    | [_, y] => (match placeS T (baL h) with
      | none => .error 5
      | some p => if hasP acc p = true then .error 6 else (match termN y with
        | none => .error 2
        | some t => .ok (atTs p t)))
    | _ => .error 2
def runP (T : List Sl) : List Ts → List Nd → Except (Nat × Int) (List Ts)
  | acc, [] => .ok acc
  | acc, x :: r => match nextR T acc x with
    | .error e => .error (x.a, e)
    | .ok t => runP T (acc ++ [t]) r
/-- A template's place, by its name. -/
def plT : List Tp → ByteArray → Option Nat
  | [], _ => none
  | t :: r, n => if t.n = n then some 0 else (plT r n).map (· + 1)
def slotsAt (L : List Tp) (q : Nat) : List Sl := match L[q]? with
  | some T => T.l
  | none => []
def parP (L : List Tp) (x : Nd) : Except (Nat × Int) Ptn :=
  match headO x with
  | none => .error (x.a, 2)
  | some h => match plT L (baL h) with
    | none => .error (x.a, 5)
    | some q => match runP (slotsAt L q) [] x.l.tail with
      | .ok l => .ok ⟨baL h, l⟩
      | .error p => .error p
theorem plT_none : ∀ (l : List Tp) (n : ByteArray), plT l n = none ↔ ∀ s ∈ l, s.n ≠ n
  | [], n => by simp [plT]
  | s :: r, n => by
    unfold plT
    by_cases h : s.n = n
    · rw [if_pos h]; simp [h]
    · rw [if_neg h, Option.map_eq_none_iff, plT_none r n]; simp [h]
theorem plT_some : ∀ (l : List Tp) (n : ByteArray) (p : Nat), plT l n = some p → ∃ s, l[p]? = some s ∧ s.n = n ∧ ∀ m s', m < p → l[m]? = some s' → s'.n ≠ n
  | [], n, p, h => by simp [plT] at h
  | s :: r, n, p, h => by
    unfold plT at h
    by_cases e : s.n = n
    · rw [if_pos e] at h
      cases h
      exact ⟨s, rfl, e, fun m s' hm => absurd hm (by omega)⟩
    · rw [if_neg e] at h
      obtain ⟨q, hq, rfl⟩ := Option.map_eq_some_iff.1 h
      obtain ⟨s', h1, h2, h3⟩ := plT_some r n q hq
      refine ⟨s', h1, h2, fun m t hm ht => ?_⟩
      cases m with
      | zero => simp at ht; subst ht; exact e
      | succ m => exact h3 m t (by omega) (by simpa using ht)
theorem plT_at : ∀ (l : List Tp) (n : ByteArray) (p : Nat) (s : Tp), l[p]? = some s → s.n = n → (∀ m s', m < p → l[m]? = some s' → s'.n ≠ n) → plT l n = some p
  | [], n, p, s, h, _, _ => by simp at h
  | x :: r, n, 0, s, h, e, _ => by simp at h; subst h; unfold plT; rw [if_pos e]
  | x :: r, n, p + 1, s, h, e, hb => by
    unfold plT
    rw [if_neg (hb 0 x (by omega) rfl), plT_at r n p s (by simpa using h) e (fun m s' hm hs => hb (m + 1) s' (by omega) (by simpa using hs))]; rfl
theorem plT_lt {l : List Tp} {n : ByteArray} {p : Nat} (h : plT l n = some p) : p < l.length := by
  obtain ⟨s, h1, _⟩ := plT_some l n p h
  exact (List.getElem?_eq_some_iff.1 h1).1
/-- .. and back. -/
def plainNd (t : Ts) : Nd := if t.v = noS then ⟨t.k, 0, t.i, t.s.data.toList, []⟩ else ⟨6, 0, 0, t.v.data.toList, []⟩
def termNd (t : Ts) : Nd := if t.n = true then ⟨8, 0, 0, [], [plainNd t]⟩ else plainNd t
def nmAt (T : List Sl) (p : Nat) : ByteArray := match T[p]? with
  | some s => s.n
  | none => noS
def tsNd (T : List Sl) (t : Ts) : Nd := ⟨0, 0, 0, [], [tsym (nmAt T t.p).data.toList, termNd t]⟩
def ptNd (T : List Sl) (p : Ptn) : Nd := ⟨0, 0, 0, [], tsym p.t.data.toList :: p.l.map (tsNd T)⟩
/-- Tests as there may be. -/
structure OkTs (T : List Sl) (t : Ts) : Prop where
  lt : t.p < T.length
  val : (t.v = noS ∧ (t.k = 1 ∨ t.k = 2 ∨ t.k = 3)) ∨ (t.v ≠ noS ∧ t.k = 0 ∧ t.i = 0 ∧ t.s = noS)
theorem baL_nil : baL [] = noS := rfl
theorem baL_no {s : List UInt8} (h : s ≠ []) : baL s ≠ noS := fun e => h (by rw [← baL_list s, e]; rfl)
theorem plainN_ok {x : Nd} {t : Ts} (h : plainN x = some t) : t.p = 0 ∧ t.n = false ∧ ((t.v = noS ∧ (t.k = 1 ∨ t.k = 2 ∨ t.k = 3)) ∨ (t.v ≠ noS ∧ t.k = 0 ∧ t.i = 0 ∧ t.s = noS)) := by
  unfold plainN at h
  split at h
  · split at h
    · cases h
    · rename_i hs
      cases h
      exact ⟨rfl, rfl, .inr ⟨baL_no hs, rfl, rfl, rfl⟩⟩
  · split at h
    · rename_i hv
      cases h
      refine ⟨rfl, rfl, .inl ⟨rfl, ?_⟩⟩
      unfold valN at hv ⊢
      split at hv
      · rename_i hk; rw [if_pos hk]; exact hk
      · cases hv
    · cases h
theorem termN_ok {x : Nd} {t : Ts} (h : termN x = some t) : t.p = 0 ∧ ((t.v = noS ∧ (t.k = 1 ∨ t.k = 2 ∨ t.k = 3)) ∨ (t.v ≠ noS ∧ t.k = 0 ∧ t.i = 0 ∧ t.s = noS)) := by
  unfold termN at h
  split at h
  · split at h
    · obtain ⟨q, hq, rfl⟩ := Option.map_eq_some_iff.1 h
      obtain ⟨h1, h2, h3⟩ := plainN_ok hq
      exact ⟨h1, h3⟩
    · cases h
  · obtain ⟨h1, h2, h3⟩ := plainN_ok h
    exact ⟨h1, h3⟩
theorem nextR_ok {T : List Sl} {acc : List Ts} {x : Nd} {t : Ts} (h : nextR T acc x = .ok t) : OkTs T t ∧ hasP acc t.p = false := by
  unfold nextR at h
  split at h
  · cases h
  split at h
  · split at h
    · cases h
    · rename_i p hp
      split at h
      · cases h
      · rename_i ha
        split at h
        · cases h
        · rename_i q hq
          cases h
          exact ⟨⟨place_lt hp, (termN_ok hq).2⟩, by have h0 := ha; rw [Bool.not_eq_true] at h0; exact h0⟩
  · cases h
theorem hasP_no {acc : List Ts} {p : Nat} : hasP acc p = false ↔ ∀ t ∈ acc, t.p ≠ p := by
  unfold hasP
  rw [List.any_eq_false]
  simp
theorem runP_ok {T : List Sl} : ∀ (r : List Nd) (acc l : List Ts), runP T acc r = .ok l → (∀ t ∈ acc, OkTs T t) → acc.Pairwise (fun a b => a.p ≠ b.p) → (∀ t ∈ l, OkTs T t) ∧ l.Pairwise (fun a b => a.p ≠ b.p) ∧ l.length = acc.length + r.length
  | [], acc, l, h, h1, h2 => by cases h; exact ⟨h1, h2, rfl⟩
  | x :: r, acc, l, h, h1, h2 => by
    unfold runP at h
    split at h
    · cases h
    · rename_i t ht
      obtain ⟨g1, g2⟩ := nextR_ok ht
      rw [hasP_no] at g2
      obtain ⟨q1, q2, q3⟩ := runP_ok r _ l h (by
        intro y hy
        rcases List.mem_append.1 hy with hy | hy
        · exact h1 y hy
        · simp at hy; subst hy; exact g1) (by
        rw [List.pairwise_append]
        refine ⟨h2, List.pairwise_singleton _ _, fun a ha b hb => ?_⟩
        simp at hb; subst hb
        exact g2 a ha)
      refine ⟨q1, q2, ?_⟩
      rw [q3, List.length_append, List.length_cons, List.length_cons, List.length_nil]; omega
/-- Patterns as there may be. -/
structure OkP (L : List Tp) (p : Ptn) (q : Nat) : Prop where
  at_ : plT L p.t = some q
  all : ∀ t ∈ p.l, OkTs (slotsAt L q) t
  one : p.l.Pairwise (fun a b => a.p ≠ b.p)
theorem parP_ok {L : List Tp} {x : Nd} {p : Ptn} (h : parP L x = .ok p) : ∃ q, OkP L p q := by
  unfold parP at h
  split at h
  · cases h
  split at h
  · cases h
  · rename_i q hq
    split at h
    · rename_i l hl
      cases h
      obtain ⟨h1, h2, _⟩ := runP_ok _ [] l hl (by simp) List.Pairwise.nil
      exact ⟨q, hq, h1, h2⟩
    · cases h
theorem nextR_err {T : List Sl} {acc : List Ts} {x : Nd} {e : Int} (h : nextR T acc x = .error e) : e = 2 ∨ e = 5 ∨ e = 6 := by
  unfold nextR at h
  split at h
  · cases h; exact .inl rfl
  split at h
  · split at h
    · cases h; exact .inr (.inl rfl)
    · split at h
      · cases h; exact .inr (.inr rfl)
      · split at h
        · cases h; exact .inl rfl
        · cases h
  · cases h; exact .inl rfl
theorem runP_err {T : List Sl} : ∀ (r : List Nd) (acc : List Ts) (p : Nat × Int), runP T acc r = .error p → (p.2 = 2 ∨ p.2 = 5 ∨ p.2 = 6) ∧ ∃ y ∈ r, p.1 = y.a
  | [], acc, p, h => by cases h
  | x :: r, acc, p, h => by
    unfold runP at h
    split at h
    · rename_i e he
      cases h; exact ⟨nextR_err he, x, by simp, rfl⟩
    · obtain ⟨h0, y, h1, h2⟩ := runP_err r _ p h
      exact ⟨h0, y, List.mem_cons_of_mem _ h1, h2⟩
theorem parP_err {L : List Tp} {x : Nd} {p : Nat × Int} (h : parP L x = .error p) : (p.2 = 2 ∨ p.2 = 5 ∨ p.2 = 6) ∧ (p.1 = x.a ∨ ∃ y ∈ x.l, p.1 = y.a) := by
  unfold parP at h
  split at h
  · cases h; exact ⟨.inl rfl, .inl rfl⟩
  split at h
  · cases h; exact ⟨.inr (.inl rfl), .inl rfl⟩
  · split at h
    · cases h
    · rename_i q hq
      cases h
      obtain ⟨h0, y, h1, h2⟩ := runP_err _ _ _ hq
      exact ⟨h0, .inr ⟨y, List.mem_of_mem_tail h1, h2⟩⟩
/-- There and back. -/
theorem plain_back (t : Ts) (h : (t.v = noS ∧ (t.k = 1 ∨ t.k = 2 ∨ t.k = 3)) ∨ (t.v ≠ noS ∧ t.k = 0 ∧ t.i = 0 ∧ t.s = noS)) : plainN (plainNd t) = some ⟨0, false, t.v, t.k, t.i, t.s⟩ := by
  obtain ⟨p, n, v, k, i, s⟩ := t
  simp only at h
  unfold plainNd
  simp only
  rcases h with ⟨rfl, hk⟩ | ⟨hv, rfl, rfl, rfl⟩
  · rw [if_pos rfl]
    unfold plainN valN
    simp only
    rw [if_neg (by omega), if_pos hk]
    simp only [if_true, ba_self]
  · rw [if_neg hv]
    unfold plainN
    simp only
    rw [if_pos trivial, if_neg (fun e => hv (by rw [← ba_self v, e]; rfl)), ba_self]
theorem term_back {T : List Sl} (t : Ts) (h : OkTs T t) : termN (termNd t) = some (atTs 0 t) := by
  have hb := plain_back t h.val
  unfold termNd
  cases hn : t.n with
  | true =>
    rw [if_pos rfl]
    unfold termN
    simp only [if_true, hb]
    obtain ⟨p, n, v, k, i, s⟩ := t
    simp only at hn
    subst hn
    rfl
  | false =>
    rw [if_neg (by simp)]
    have hk : (plainNd t).k ≠ 8 := by
      unfold plainNd
      split
      · rename_i hv
        rcases h.val with ⟨_, hk⟩ | ⟨h0, _⟩
        · show t.k ≠ 8
          omega
        · exact absurd hv h0
      · show (6 : Int) ≠ 8
        decide
    unfold termN
    rw [if_neg hk, hb]
    obtain ⟨p, n, v, k, i, s⟩ := t
    simp only at hn
    subst hn
    rfl
/-- Names of slots, each once. -/
def OneN (T : List Sl) : Prop := ∀ (p : Nat) (s : Sl), T[p]? = some s → placeS T s.n = some p
theorem next_back {T : List Sl} (hT : OneN T) (acc : List Ts) (t : Ts) (h : OkTs T t) (ha : hasP acc t.p = false) : nextR T acc (tsNd T t) = .ok t := by
  obtain ⟨s, hs⟩ : ∃ s, T[t.p]? = some s := ⟨_, List.getElem?_eq_getElem h.lt⟩
  have hn : nmAt T t.p = s.n := by unfold nmAt; rw [hs]
  unfold nextR
  rw [show headO (tsNd T t) = some (nmAt T t.p).data.toList from rfl]
  simp only [tsNd, ba_self, hn, hT _ _ hs, ha, Bool.false_eq_true, if_false, term_back t h]
  rfl
theorem run_back {T : List Sl} (hT : OneN T) : ∀ (l acc : List Ts), (∀ t ∈ acc ++ l, OkTs T t) → (acc ++ l).Pairwise (fun a b => a.p ≠ b.p) → runP T acc (l.map (tsNd T)) = .ok (acc ++ l)
  | [], acc, _, _ => by rw [List.append_nil]; rfl
  | t :: l, acc, h1, h2 => by
    have ha : hasP acc t.p = false := by
      rw [hasP_no]
      intro a hm
      rw [List.pairwise_append] at h2
      exact h2.2.2 a hm t (by simp)
    rw [List.map_cons, runP, next_back hT acc t (h1 t (by simp)) ha]
    simp only
    rw [run_back hT l (acc ++ [t]) (by rw [List.append_assoc]; exact h1) (by rw [List.append_assoc]; exact h2), List.append_assoc]
    rfl
theorem parP_back {L : List Tp} {p : Ptn} {q : Nat} (h : OkP L p q) (hT : OneN (slotsAt L q)) : parP L (ptNd (slotsAt L q) p) = .ok p := by
  unfold parP
  rw [show headO (ptNd (slotsAt L q) p) = some p.t.data.toList from rfl]
  simp only [ba_self, h.at_]
  rw [show (ptNd (slotsAt L q) p).l.tail = p.l.map (tsNd (slotsAt L q)) from rfl, run_back hT p.l [] (by rw [List.nil_append]; exact h.all) (by rw [List.nil_append]; exact h.one)]
  rfl
/-- What variables have. -/
def gtB : List Sl → ByteArray → Option Sl
  | [], _ => none
  | s :: r, n => match gtB r n with
    | some x => some x
    | none => if s.n = n then some s else none
theorem gtB_miss : ∀ (E : List Sl) (n : ByteArray), (∀ (m : Nat) (s : Sl), E[m]? = some s → s.n ≠ n) → gtB E n = none
  | [], n, _ => rfl
  | s :: r, n, h => by
    unfold gtB
    rw [gtB_miss r n (fun m x hm => h (m + 1) x (by simpa using hm))]
    simp only
    rw [if_neg (h 0 s rfl)]
theorem gtB_hit : ∀ (E : List Sl) (j : Nat) (s : Sl) (n : ByteArray), E[j]? = some s → s.n = n → (∀ (m : Nat) (x : Sl), j < m → E[m]? = some x → x.n ≠ n) → gtB E n = some s
  | [], j, s, n, h, _, _ => by simp at h
  | x :: r, 0, s, n, h, e, hm => by
    simp at h
    subst h
    unfold gtB
    rw [gtB_miss r n (fun m y hy => hm (m + 1) y (by omega) (by simpa using hy))]
    simp only
    rw [if_pos e]
  | x :: r, j + 1, s, n, h, e, hm => by
    unfold gtB
    rw [gtB_hit r j s n (by simpa using h) e (fun m y hj hy => hm (m + 1) y (by omega) (by simpa using hy))]
/-- Holding a fact against tests. -/
def holdT (t : Ts) (k i : Int) (s : ByteArray) (k' i' : Int) (s' : ByteArray) : Bool := sameB k i s k' i' s' != t.n
def stepM (F : List Val) (E : List Sl) (t : Ts) : Option (List Sl) :=
  match F[t.p]? with
  | none => none
  | some v => if t.v = noS then (if holdT t v.k v.i v.s t.k t.i t.s = true then some E else none)
    else match gtB E t.v with
      | none => if t.n = true then none else some (E ++ [⟨t.v, v.k, v.i, v.s⟩])
      | some x => if holdT t v.k v.i v.s x.k x.i x.s = true then some E else none
def matchL (F : List Val) : List Ts → List Sl → Option (List Sl)
  | [], E => some E
  | t :: r, E => match stepM F E t with
    | none => none
    | some G => matchL F r G
theorem matchL_app (F : List Val) : ∀ (a b : List Ts) (E : List Sl), matchL F (a ++ b) E = match matchL F a E with
    | none => none
    | some G => matchL F b G
  | [], b, E => rfl
  | t :: r, b, E => by
    rw [List.cons_append, matchL, matchL]
    cases stepM F E t with
    | none => rfl
    | some G => exact matchL_app F r b G
def aloneT (F : List Val) (t : Ts) : Bool :=
  match F[t.p]? with
  | none => false
  | some v => if t.v = noS then holdT t v.k v.i v.s t.k t.i t.s else true
def aloneL (F : List Val) (l : List Ts) : Bool := l.all (aloneT F)
/-- .. by its variables alone. -/
def stepV (F : List Val) (E : List Sl) (t : Ts) : Option (List Sl) := if t.v = noS then some E else stepM F E t
def matchV (F : List Val) : List Ts → List Sl → Option (List Sl)
  | [], E => some E
  | t :: r, E => match stepV F E t with
    | none => none
    | some G => matchV F r G
theorem matchV_app (F : List Val) : ∀ (a b : List Ts) (E : List Sl), matchV F (a ++ b) E = match matchV F a E with
    | none => none
    | some G => matchV F b G
  | [], b, E => rfl
  | t :: r, b, E => by
    rw [List.cons_append, matchV, matchV]
    cases stepV F E t with
    | none => rfl
    | some G => exact matchV_app F r b G
theorem match_no (F : List Val) : ∀ (l : List Ts) (E : List Sl), aloneL F l = false → matchL F l E = none
  | [], E, h => by cases h
  | t :: r, E, h => by
    have h2 : (aloneT F t && aloneL F r) = false := h
    rw [matchL]
    cases ha : aloneT F t with
    | false =>
      have : stepM F E t = none := by
        unfold aloneT at ha
        unfold stepM
        split at ha
        · rfl
        · split at ha
          · rename_i hn; rw [if_pos hn, if_neg (by rw [ha]; simp)]
          · cases ha
      rw [this]
    | true =>
      rw [ha, Bool.true_and] at h2
      cases stepM F E t with
      | none => rfl
      | some G => exact match_no F r G h2
theorem match_yes (F : List Val) : ∀ (l : List Ts) (E : List Sl), aloneL F l = true → matchL F l E = matchV F l E
  | [], E, h => rfl
  | t :: r, E, h => by
    have h2 : (aloneT F t && aloneL F r) = true := h
    rw [Bool.and_eq_true] at h2
    have hs : stepM F E t = stepV F E t := by
      unfold stepV
      split
      · rename_i hn
        have ha := h2.1
        unfold aloneT at ha
        unfold stepM
        split at ha
        · cases ha
        · rw [if_pos hn] at ha ⊢
          rw [if_pos ha]
      · rfl
    rw [matchL, matchV, hs]
    cases stepV F E t with
    | none => rfl
    | some G => exact match_yes F r G h2.2
theorem stepM_len {F : List Val} {E G : List Sl} {t : Ts} (h : stepM F E t = some G) : G.length ≤ E.length + 1 := by
  unfold stepM at h
  split at h
  · cases h
  · split at h
    · split at h
      · cases h; omega
      · cases h
    · split at h
      · split at h
        · cases h
        · cases h; rw [List.length_append]; simp
      · split at h
        · cases h; omega
        · cases h
theorem stepV_len {F : List Val} {E G : List Sl} {t : Ts} (h : stepV F E t = some G) : G.length ≤ E.length + 1 := by
  unfold stepV at h
  split at h
  · cases h; omega
  · exact stepM_len h
theorem matchL_len {F : List Val} : ∀ {l : List Ts} {E G : List Sl}, matchL F l E = some G → G.length ≤ E.length + l.length
  | [], E, G, h => by cases h; exact Nat.le_refl _
  | t :: r, E, G, h => by
    rw [matchL] at h
    cases hs : stepM F E t with
    | none => rw [hs] at h; cases h
    | some K =>
      rw [hs] at h
      have h1 := stepM_len hs
      have h2 := matchL_len h
      rw [List.length_cons]; omega
theorem matchV_len {F : List Val} : ∀ {l : List Ts} {E G : List Sl}, matchV F l E = some G → G.length ≤ E.length + l.length
  | [], E, G, h => by cases h; exact Nat.le_refl _
  | t :: r, E, G, h => by
    rw [matchV] at h
    cases hs : stepV F E t with
    | none => rw [hs] at h; cases h
    | some K =>
      rw [hs] at h
      have h1 := stepV_len hs
      have h2 := matchV_len h
      rw [List.length_cons]; omega
/-- One more round. -/
theorem take_ts {l : List Ts} {k : Nat} {t : Ts} (h : l[k]? = some t) : l.take (k + 1) = l.take k ++ [t] := by
  rw [List.take_add_one, h]; rfl
theorem split_ts {l : List Ts} {k : Nat} {t : Ts} (h : l[k]? = some t) : l = l.take k ++ t :: l.drop (k + 1) := by
  obtain ⟨h1, h2⟩ := List.getElem?_eq_some_iff.1 h
  rw [← h2, ← List.drop_eq_getElem_cons h1, List.take_append_drop]
theorem matchL_go {F : List Val} {l : List Ts} {k : Nat} {t : Ts} {E G K : List Sl} (h : l[k]? = some t) (h1 : matchL F (l.take k) E = some G) (h2 : stepM F G t = some K) : matchL F (l.take (k + 1)) E = some K := by
  rw [take_ts h, matchL_app, h1]
  simp only
  rw [matchL, h2]
  rfl
theorem matchL_end {F : List Val} {l : List Ts} {k : Nat} {t : Ts} {E G : List Sl} (h : l[k]? = some t) (h1 : matchL F (l.take k) E = some G) (h2 : stepM F G t = none) : matchL F l E = none := by
  rw [split_ts h, matchL_app, h1]
  simp only
  rw [matchL, h2]
theorem matchV_go {F : List Val} {l : List Ts} {k : Nat} {t : Ts} {E G K : List Sl} (h : l[k]? = some t) (h1 : matchV F (l.take k) E = some G) (h2 : stepV F G t = some K) : matchV F (l.take (k + 1)) E = some K := by
  rw [take_ts h, matchV_app, h1]
  simp only
  rw [matchV, h2]
  rfl
theorem matchV_end {F : List Val} {l : List Ts} {k : Nat} {t : Ts} {E G : List Sl} (h : l[k]? = some t) (h1 : matchV F (l.take k) E = some G) (h2 : stepV F G t = none) : matchV F l E = none := by
  rw [split_ts h, matchV_app, h1]
  simp only
  rw [matchV, h2]
/-- Whose variables get values. -/
def varOne (acc : List ByteArray) (t : Ts) : List ByteArray := if t.v = noS then acc else if t.n = true then acc else if acc.any (fun n => decide (n = t.v)) = true then acc else acc ++ [t.v]
def varsL (l : List Ts) : List ByteArray := l.foldl varOne []
theorem vars_go {l : List Ts} {k : Nat} {t : Ts} (h : l[k]? = some t) : varsL (l.take (k + 1)) = varOne (varsL (l.take k)) t := by
  rw [take_ts h]; unfold varsL; rw [List.foldl_append]; rfl
theorem varOne_len (acc : List ByteArray) (t : Ts) : (varOne acc t).length ≤ acc.length + 1 := by
  unfold varOne
  split
  · omega
  split
  · omega
  split
  · omega
  · rw [List.length_append]; simp
theorem vars_len : ∀ (l : List Ts) (acc : List ByteArray), (l.foldl varOne acc).length ≤ acc.length + l.length
  | [], acc => Nat.le_refl _
  | t :: r, acc => by
    have h1 := varOne_len acc t
    have h2 := vars_len r (varOne acc t)
    rw [List.foldl_cons, List.length_cons]; omega
end Go.Proofs.YtnhbjhdkpbhioaaGreatDoor
