import Derived.Test.YtnhbjhdkpbhioaaGreatDoorG23
import Derived.Deep.RegionHeld3
import Derived.Test.YtnhbjhdkpbhioaaGreatDoorG14
namespace Go.Proofs.YtnhbjhdkpbhioaaGreatDoor
open Go.RowKit
structure Ts where
  p : Nat
  n : Bool
  v : ByteArray
  k : Int
  i : Int
  s : ByteArray
structure Ptn where
  t : ByteArray
  l : List Ts
def noS : ByteArray := ⟨#[]⟩
def headO (x : Nd) : Option (List UInt8) := if x.k = 0 then (match x.l with | y :: _ => if y.k = 2 then some y.s else none | [] => none) else none
def plainN (x : Nd) : Option Ts :=
  if x.k = 6 then (if x.s = [] then none else some ⟨0, false, baL x.s, 0, 0, noS⟩)
  else if (valN x).2.2.2 = true then some ⟨0, false, noS, (valN x).1, (valN x).2.1, baL (valN x).2.2.1⟩ else none
def notTs (t : Ts) : Ts := ⟨t.p, true, t.v, t.k, t.i, t.s⟩
def atTs (p : Nat) (t : Ts) : Ts := ⟨p, t.n, t.v, t.k, t.i, t.s⟩
def termN (x : Nd) : Option Ts :=
  if x.k = 8 then (match x.l with | [y] => (plainN y).map notTs | _ => none) else plainN x
def hasP (acc : List Ts) (p : Nat) : Bool := acc.any fun t => decide (t.p = p)
def nextR (T : List Sl) (acc : List Ts) (x : Nd) : Except Int Ts :=
  match headO x with
  | none => .error 2
  | some h => match x.l with
    | [_, y] => (match placeS T (baL h) with
      | none => .error 5
      | some p => if hasP acc p = true then .error 6 else (match termN y with
        | none => .error 2
        | some t => .ok (atTs p t)))
    | _ => .error 2
def runP (T : List Sl) : List Ts → List Nd → Except (Nat × Int) (List Ts)
  | acc, [] => .ok acc
  | acc, x :: r => match nextR T acc x with
    | .error e => .error (x.a, e)
    | .ok t => runP T (acc ++ [t]) r
def plT : List Tp → ByteArray → Option Nat
  | [], _ => none
  | t :: r, n => if t.n = n then some 0 else (plT r n).map (· + 1)
def slotsAt (L : List Tp) (q : Nat) : List Sl := match L[q]? with
  | some T => T.l
  | none => []
def parP (L : List Tp) (x : Nd) : Except (Nat × Int) Ptn :=
  match headO x with
  | none => .error (x.a, 2)
  | some h => match plT L (baL h) with
    | none => .error (x.a, 5)
    | some q => match runP (slotsAt L q) [] x.l.tail with
      | .ok l => .ok ⟨baL h, l⟩
      | .error p => .error p
theorem plT_none : ∀ (l : List Tp) (n : ByteArray), plT l n = none ↔ ∀ s ∈ l, s.n ≠ n
  | [], n => by simp [plT]
  | s :: r, n => by
    unfold plT
    by_cases h : s.n = n
    · rw [if_pos h]; simp [h]
    · rw [if_neg h, Option.map_eq_none_iff, plT_none r n]; simp [h]
theorem plT_some : ∀ (l : List Tp) (n : ByteArray) (p : Nat), plT l n = some p → ∃ s, l[p]? = some s ∧ s.n = n ∧ ∀ m s', m < p → l[m]? = some s' → s'.n ≠ n
  | [], n, p, h => by simp [plT] at h
  | s :: r, n, p, h => by
    unfold plT at h
    by_cases e : s.n = n
    · rw [if_pos e] at h
      cases h
      exact ⟨s, rfl, e, fun m s' hm => absurd hm (by omega)⟩
    · rw [if_neg e] at h
      obtain ⟨q, hq, rfl⟩ := Option.map_eq_some_iff.1 h
      obtain ⟨s', h1, h2, h3⟩ := plT_some r n q hq
      refine ⟨s', h1, h2, fun m t hm ht => ?_⟩
      cases m with
      | zero => simp at ht; subst ht; exact e
      | succ m => exact h3 m t (by omega) (by simpa using ht)
theorem plT_at : ∀ (l : List Tp) (n : ByteArray) (p : Nat) (s : Tp), l[p]? = some s → s.n = n → (∀ m s', m < p → l[m]? = some s' → s'.n ≠ n) → plT l n = some p
  | [], n, p, s, h, _, _ => by simp at h
  | x :: r, n, 0, s, h, e, _ => by simp at h; subst h; unfold plT; rw [if_pos e]
  | x :: r, n, p + 1, s, h, e, hb => by
    unfold plT
    rw [if_neg (hb 0 x (by omega) rfl), plT_at r n p s (by simpa using h) e (fun m s' hm hs => hb (m + 1) s' (by omega) (by simpa using hs))]; rfl
theorem plT_lt {l : List Tp} {n : ByteArray} {p : Nat} (h : plT l n = some p) : p < l.length := by
  obtain ⟨s, h1, _⟩ := plT_some l n p h
  exact (List.getElem?_eq_some_iff.1 h1).1
def plainNd (t : Ts) : Nd := if t.v = noS then ⟨t.k, 0, t.i, t.s.data.toList, []⟩ else ⟨6, 0, 0, t.v.data.toList, []⟩
def termNd (t : Ts) : Nd := if t.n = true then ⟨8, 0, 0, [], [plainNd t]⟩ else plainNd t
def nmAt (T : List Sl) (p : Nat) : ByteArray := match T[p]? with
  | some s => s.n
  | none => noS
def tsNd (T : List Sl) (t : Ts) : Nd := ⟨0, 0, 0, [], [tsym (nmAt T t.p).data.toList, termNd t]⟩
def ptNd (T : List Sl) (p : Ptn) : Nd := ⟨0, 0, 0, [], tsym p.t.data.toList :: p.l.map (tsNd T)⟩
structure OkTs (T : List Sl) (t : Ts) : Prop where
  lt : t.p < T.length
  val : (t.v = noS ∧ (t.k = 1 ∨ t.k = 2 ∨ t.k = 3)) ∨ (t.v ≠ noS ∧ t.k = 0 ∧ t.i = 0 ∧ t.s = noS)
theorem baL_no {s : List UInt8} (h : s ≠ []) : baL s ≠ noS := fun e => h (by rw [← baL_list s, e]; rfl)
theorem plainN_ok {x : Nd} {t : Ts} (h : plainN x = some t) : t.p = 0 ∧ t.n = false ∧ ((t.v = noS ∧ (t.k = 1 ∨ t.k = 2 ∨ t.k = 3)) ∨ (t.v ≠ noS ∧ t.k = 0 ∧ t.i = 0 ∧ t.s = noS)) := by
  unfold plainN at h
  split at h
  · split at h
    · cases h
    · rename_i hs
      cases h
      exact ⟨rfl, rfl, .inr ⟨baL_no hs, rfl, rfl, rfl⟩⟩
  · split at h
    · rename_i hv
      cases h
      refine ⟨rfl, rfl, .inl ⟨rfl, ?_⟩⟩
      unfold valN at hv ⊢
      split at hv
      · rename_i hk; rw [if_pos hk]; exact hk
      · cases hv
    · cases h
theorem termN_ok {x : Nd} {t : Ts} (h : termN x = some t) : t.p = 0 ∧ ((t.v = noS ∧ (t.k = 1 ∨ t.k = 2 ∨ t.k = 3)) ∨ (t.v ≠ noS ∧ t.k = 0 ∧ t.i = 0 ∧ t.s = noS)) := by
  unfold termN at h
  split at h
  · split at h
    · obtain ⟨q, hq, rfl⟩ := Option.map_eq_some_iff.1 h
      obtain ⟨h1, h2, h3⟩ := plainN_ok hq
      exact ⟨h1, h3⟩
    · cases h
  · obtain ⟨h1, h2, h3⟩ := plainN_ok h
    exact ⟨h1, h3⟩
theorem nextR_ok {T : List Sl} {acc : List Ts} {x : Nd} {t : Ts} (h : nextR T acc x = .ok t) : OkTs T t ∧ hasP acc t.p = false := by
  unfold nextR at h
  split at h
  · cases h
  split at h
  · split at h
    · cases h
    · rename_i p hp
      split at h
      · cases h
      · rename_i ha
        split at h
        · cases h
        · rename_i q hq
          cases h
          exact ⟨⟨place_lt hp, (termN_ok hq).2⟩, by have h0 := ha; rw [Bool.not_eq_true] at h0; exact h0⟩
  · cases h
theorem hasP_no {acc : List Ts} {p : Nat} : hasP acc p = false ↔ ∀ t ∈ acc, t.p ≠ p := by
  unfold hasP
  rw [List.any_eq_false]
  simp
theorem runP_ok {T : List Sl} : ∀ (r : List Nd) (acc l : List Ts), runP T acc r = .ok l → (∀ t ∈ acc, OkTs T t) → acc.Pairwise (fun a b => a.p ≠ b.p) → (∀ t ∈ l, OkTs T t) ∧ l.Pairwise (fun a b => a.p ≠ b.p) ∧ l.length = acc.length + r.length
  | [], acc, l, h, h1, h2 => by cases h; exact ⟨h1, h2, rfl⟩
  | x :: r, acc, l, h, h1, h2 => by
    unfold runP at h
    split at h
    · cases h
    · rename_i t ht
      obtain ⟨g1, g2⟩ := nextR_ok ht
      rw [hasP_no] at g2
      obtain ⟨q1, q2, q3⟩ := runP_ok r _ l h (by
        intro y hy
        rcases List.mem_append.1 hy with hy | hy
        · exact h1 y hy
        · simp at hy; subst hy; exact g1) (by
        rw [List.pairwise_append]
        refine ⟨h2, List.pairwise_singleton _ _, fun a ha b hb => ?_⟩
        simp at hb; subst hb
        exact g2 a ha)
      refine ⟨q1, q2, ?_⟩
      rw [q3, List.length_append, List.length_cons, List.length_cons, List.length_nil]; omega
structure OkP (L : List Tp) (p : Ptn) (q : Nat) : Prop where
  at_ : plT L p.t = some q
  all : ∀ t ∈ p.l, OkTs (slotsAt L q) t
  one : p.l.Pairwise (fun a b => a.p ≠ b.p)
theorem parP_ok {L : List Tp} {x : Nd} {p : Ptn} (h : parP L x = .ok p) : ∃ q, OkP L p q := by
  unfold parP at h
  split at h
  · cases h
  split at h
  · cases h
  · rename_i q hq
    split at h
    · rename_i l hl
      cases h
      obtain ⟨h1, h2, _⟩ := runP_ok _ [] l hl (by simp) List.Pairwise.nil
      exact ⟨q, hq, h1, h2⟩
    · cases h
theorem nextR_err {T : List Sl} {acc : List Ts} {x : Nd} {e : Int} (h : nextR T acc x = .error e) : e = 2 ∨ e = 5 ∨ e = 6 := by
  unfold nextR at h
  split at h
  · cases h; exact .inl rfl
  split at h
  · split at h
    · cases h; exact .inr (.inl rfl)
    · split at h
      · cases h; exact .inr (.inr rfl)
      · split at h
        · cases h; exact .inl rfl
        · cases h
  · cases h; exact .inl rfl
theorem runP_err {T : List Sl} : ∀ (r : List Nd) (acc : List Ts) (p : Nat × Int), runP T acc r = .error p → (p.2 = 2 ∨ p.2 = 5 ∨ p.2 = 6) ∧ ∃ y ∈ r, p.1 = y.a
  | [], acc, p, h => by cases h
  | x :: r, acc, p, h => by
    unfold runP at h
    split at h
    · rename_i e he
      cases h; exact ⟨nextR_err he, x, by simp, rfl⟩
    · obtain ⟨h0, y, h1, h2⟩ := runP_err r _ p h
      exact ⟨h0, y, List.mem_cons_of_mem _ h1, h2⟩
theorem parP_err {L : List Tp} {x : Nd} {p : Nat × Int} (h : parP L x = .error p) : (p.2 = 2 ∨ p.2 = 5 ∨ p.2 = 6) ∧ (p.1 = x.a ∨ ∃ y ∈ x.l, p.1 = y.a) := by
  unfold parP at h
  split at h
  · cases h; exact ⟨.inl rfl, .inl rfl⟩
  split at h
  · cases h; exact ⟨.inr (.inl rfl), .inl rfl⟩
  · split at h
    · cases h
    · rename_i q hq
      cases h
      obtain ⟨h0, y, h1, h2⟩ := runP_err _ _ _ hq
      exact ⟨h0, .inr ⟨y, List.mem_of_mem_tail h1, h2⟩⟩
theorem plain_back (t : Ts) (h : (t.v = noS ∧ (t.k = 1 ∨ t.k = 2 ∨ t.k = 3)) ∨ (t.v ≠ noS ∧ t.k = 0 ∧ t.i = 0 ∧ t.s = noS)) : plainN (plainNd t) = some ⟨0, false, t.v, t.k, t.i, t.s⟩ := by
  obtain ⟨p, n, v, k, i, s⟩ := t
  simp only at h
  unfold plainNd
  simp only
  rcases h with ⟨rfl, hk⟩ | ⟨hv, rfl, rfl, rfl⟩
  · rw [if_pos rfl]
    unfold plainN valN
    simp only
    rw [if_neg (by omega), if_pos hk]
    simp only [if_true, ba_self]
  · rw [if_neg hv]
    unfold plainN
    simp only
    rw [if_pos trivial, if_neg (fun e => hv (by rw [← ba_self v, e]; rfl)), ba_self]
theorem term_back {T : List Sl} (t : Ts) (h : OkTs T t) : termN (termNd t) = some (atTs 0 t) := by
  have hb := plain_back t h.val
  unfold termNd
  cases hn : t.n with
  | true =>
    rw [if_pos rfl]
    unfold termN
    simp only [if_true, hb]
    obtain ⟨p, n, v, k, i, s⟩ := t
    simp only at hn
    subst hn
    rfl
  | false =>
    rw [if_neg (by simp)]
    have hk : (plainNd t).k ≠ 8 := by
      unfold plainNd
      split
      · rename_i hv
        rcases h.val with ⟨_, hk⟩ | ⟨h0, _⟩
        · show t.k ≠ 8
          omega
        · exact absurd hv h0
      · show (6 : Int) ≠ 8
        decide
    unfold termN
    rw [if_neg hk, hb]
    obtain ⟨p, n, v, k, i, s⟩ := t
    simp only at hn
    subst hn
    rfl
def OneN (T : List Sl) : Prop := ∀ (p : Nat) (s : Sl), T[p]? = some s → placeS T s.n = some p
theorem next_back {T : List Sl} (hT : OneN T) (acc : List Ts) (t : Ts) (h : OkTs T t) (ha : hasP acc t.p = false) : nextR T acc (tsNd T t) = .ok t := by
  obtain ⟨s, hs⟩ : ∃ s, T[t.p]? = some s := ⟨_, List.getElem?_eq_getElem h.lt⟩
  have hn : nmAt T t.p = s.n := by unfold nmAt; rw [hs]
  unfold nextR
  rw [show headO (tsNd T t) = some (nmAt T t.p).data.toList from rfl]
  simp only [tsNd, ba_self, hn, hT _ _ hs, ha, Bool.false_eq_true, if_false, term_back t h]
  rfl
theorem run_back {T : List Sl} (hT : OneN T) : ∀ (l acc : List Ts), (∀ t ∈ acc ++ l, OkTs T t) → (acc ++ l).Pairwise (fun a b => a.p ≠ b.p) → runP T acc (l.map (tsNd T)) = .ok (acc ++ l)
  | [], acc, _, _ => by rw [List.append_nil]; rfl
  | t :: l, acc, h1, h2 => by
    have ha : hasP acc t.p = false := by
      rw [hasP_no]
      intro a hm
      rw [List.pairwise_append] at h2
      exact h2.2.2 a hm t (by simp)
    rw [List.map_cons, runP, next_back hT acc t (h1 t (by simp)) ha]
    simp only
    rw [run_back hT l (acc ++ [t]) (by rw [List.append_assoc]; exact h1) (by rw [List.append_assoc]; exact h2), List.append_assoc]
    rfl
theorem parP_back {L : List Tp} {p : Ptn} {q : Nat} (h : OkP L p q) (hT : OneN (slotsAt L q)) : parP L (ptNd (slotsAt L q) p) = .ok p := by
  unfold parP
  rw [show headO (ptNd (slotsAt L q) p) = some p.t.data.toList from rfl]
  simp only [ba_self, h.at_]
  rw [show (ptNd (slotsAt L q) p).l.tail = p.l.map (tsNd (slotsAt L q)) from rfl, run_back hT p.l [] (by rw [List.nil_append]; exact h.all) (by rw [List.nil_append]; exact h.one)]
  rfl
def gtB : List Sl → ByteArray → Option Sl
  | [], _ => none
  | s :: r, n => match gtB r n with
    | some x => some x
    | none => if s.n = n then some s else none
theorem gtB_miss : ∀ (E : List Sl) (n : ByteArray), (∀ (m : Nat) (s : Sl), E[m]? = some s → s.n ≠ n) → gtB E n = none
  | [], n, _ => rfl
  | s :: r, n, h => by
    unfold gtB
    rw [gtB_miss r n (fun m x hm => h (m + 1) x (by simpa using hm))]
    simp only
    rw [if_neg (h 0 s rfl)]
theorem gtB_hit : ∀ (E : List Sl) (j : Nat) (s : Sl) (n : ByteArray), E[j]? = some s → s.n = n → (∀ (m : Nat) (x : Sl), j < m → E[m]? = some x → x.n ≠ n) → gtB E n = some s
  | [], j, s, n, h, _, _ => by simp at h
  | x :: r, 0, s, n, h, e, hm => by
    simp at h
    subst h
    unfold gtB
    rw [gtB_miss r n (fun m y hy => hm (m + 1) y (by omega) (by simpa using hy))]
    simp only
    rw [if_pos e]
  | x :: r, j + 1, s, n, h, e, hm => by
    unfold gtB
    rw [gtB_hit r j s n (by simpa using h) e (fun m y hj hy => hm (m + 1) y (by omega) (by simpa using hy))]
def holdT (t : Ts) (k i : Int) (s : ByteArray) (k' i' : Int) (s' : ByteArray) : Bool := sameB k i s k' i' s' != t.n
def stepM (F : List Val) (E : List Sl) (t : Ts) : Option (List Sl) :=
  match F[t.p]? with
  | none => none
  | some v => if t.v = noS then (if holdT t v.k v.i v.s t.k t.i t.s = true then some E else none)
    else match gtB E t.v with
      | none => if t.n = true then none else some (E ++ [⟨t.v, v.k, v.i, v.s⟩])
      | some x => if holdT t v.k v.i v.s x.k x.i x.s = true then some E else none
def matchL (F : List Val) : List Ts → List Sl → Option (List Sl)
  | [], E => some E
  | t :: r, E => match stepM F E t with
    | none => none
    | some G => matchL F r G
theorem matchL_app (F : List Val) : ∀ (a b : List Ts) (E : List Sl), matchL F (a ++ b) E = match matchL F a E with
    | none => none
    | some G => matchL F b G
  | [], b, E => rfl
  | t :: r, b, E => by
    rw [List.cons_append, matchL, matchL]
    cases stepM F E t with
    | none => rfl
    | some G => exact matchL_app F r b G
def aloneT (F : List Val) (t : Ts) : Bool :=
  match F[t.p]? with
  | none => false
  | some v => if t.v = noS then holdT t v.k v.i v.s t.k t.i t.s else true
def aloneL (F : List Val) (l : List Ts) : Bool := l.all (aloneT F)
def stepV (F : List Val) (E : List Sl) (t : Ts) : Option (List Sl) := if t.v = noS then some E else stepM F E t
def matchV (F : List Val) : List Ts → List Sl → Option (List Sl)
  | [], E => some E
  | t :: r, E => match stepV F E t with
    | none => none
    | some G => matchV F r G
theorem matchV_app (F : List Val) : ∀ (a b : List Ts) (E : List Sl), matchV F (a ++ b) E = match matchV F a E with
    | none => none
    | some G => matchV F b G
  | [], b, E => rfl
  | t :: r, b, E => by
    rw [List.cons_append, matchV, matchV]
    cases stepV F E t with
    | none => rfl
    | some G => exact matchV_app F r b G
theorem match_no (F : List Val) : ∀ (l : List Ts) (E : List Sl), aloneL F l = false → matchL F l E = none
  | [], E, h => by cases h
  | t :: r, E, h => by
    have h2 : (aloneT F t && aloneL F r) = false := h
    rw [matchL]
    cases ha : aloneT F t with
    | false =>
      have : stepM F E t = none := by
        unfold aloneT at ha
        unfold stepM
        split at ha
        · rfl
        · split at ha
          · rename_i hn; rw [if_pos hn, if_neg (by rw [ha]; simp)]
          · cases ha
      rw [this]
    | true =>
      rw [ha, Bool.true_and] at h2
      cases stepM F E t with
      | none => rfl
      | some G => exact match_no F r G h2
theorem match_yes (F : List Val) : ∀ (l : List Ts) (E : List Sl), aloneL F l = true → matchL F l E = matchV F l E
  | [], E, h => rfl
  | t :: r, E, h => by
    have h2 : (aloneT F t && aloneL F r) = true := h
    rw [Bool.and_eq_true] at h2
    have hs : stepM F E t = stepV F E t := by
      unfold stepV
      split
      · rename_i hn
        have ha := h2.1
        unfold aloneT at ha
        unfold stepM
        split at ha
        · cases ha
        · rw [if_pos hn] at ha ⊢
          rw [if_pos ha]
      · rfl
    rw [matchL, matchV, hs]
    cases stepV F E t with
    | none => rfl
    | some G => exact match_yes F r G h2.2
theorem stepM_len {F : List Val} {E G : List Sl} {t : Ts} (h : stepM F E t = some G) : G.length ≤ E.length + 1 := by
  unfold stepM at h
  split at h
  · cases h
  · split at h
    · split at h
      · cases h; omega
      · cases h
    · split at h
      · split at h
        · cases h
        · cases h; rw [List.length_append]; simp
      · split at h
        · cases h; omega
        · cases h
theorem matchL_len {F : List Val} : ∀ {l : List Ts} {E G : List Sl}, matchL F l E = some G → G.length ≤ E.length + l.length
  | [], E, G, h => by cases h; exact Nat.le_refl _
  | t :: r, E, G, h => by
    rw [matchL] at h
    cases hs : stepM F E t with
    | none => rw [hs] at h; cases h
    | some K =>
      rw [hs] at h
      have h1 := stepM_len hs
      have h2 := matchL_len h
      rw [List.length_cons]; omega
theorem take_ts {l : List Ts} {k : Nat} {t : Ts} (h : l[k]? = some t) : l.take (k + 1) = l.take k ++ [t] := by
  rw [List.take_add_one, h]; rfl
theorem split_ts {l : List Ts} {k : Nat} {t : Ts} (h : l[k]? = some t) : l = l.take k ++ t :: l.drop (k + 1) := by
  obtain ⟨h1, h2⟩ := List.getElem?_eq_some_iff.1 h
  rw [← h2, ← List.drop_eq_getElem_cons h1, List.take_append_drop]
theorem matchL_go {F : List Val} {l : List Ts} {k : Nat} {t : Ts} {E G K : List Sl} (h : l[k]? = some t) (h1 : matchL F (l.take k) E = some G) (h2 : stepM F G t = some K) : matchL F (l.take (k + 1)) E = some K := by
  rw [take_ts h, matchL_app, h1]
  simp only
  rw [matchL, h2]
  rfl
theorem matchL_end {F : List Val} {l : List Ts} {k : Nat} {t : Ts} {E G : List Sl} (h : l[k]? = some t) (h1 : matchL F (l.take k) E = some G) (h2 : stepM F G t = none) : matchL F l E = none := by
  rw [split_ts h, matchL_app, h1]
  simp only
  rw [matchL, h2]
theorem matchV_go {F : List Val} {l : List Ts} {k : Nat} {t : Ts} {E G K : List Sl} (h : l[k]? = some t) (h1 : matchV F (l.take k) E = some G) (h2 : stepV F G t = some K) : matchV F (l.take (k + 1)) E = some K := by
  rw [take_ts h, matchV_app, h1]
  simp only
  rw [matchV, h2]
  rfl
theorem matchV_end {F : List Val} {l : List Ts} {k : Nat} {t : Ts} {E G : List Sl} (h : l[k]? = some t) (h1 : matchV F (l.take k) E = some G) (h2 : stepV F G t = none) : matchV F l E = none := by
  rw [split_ts h, matchV_app, h1]
  simp only
  rw [matchV, h2]
def varOne (acc : List ByteArray) (t : Ts) : List ByteArray := if t.v = noS then acc else if t.n = true then acc else if acc.any (fun n => decide (n = t.v)) = true then acc else acc ++ [t.v]
def varsL (l : List Ts) : List ByteArray := l.foldl varOne []
theorem vars_go {l : List Ts} {k : Nat} {t : Ts} (h : l[k]? = some t) : varsL (l.take (k + 1)) = varOne (varsL (l.take k)) t := by
  rw [take_ts h]; unfold varsL; rw [List.foldl_append]; rfl
theorem varOne_len (acc : List ByteArray) (t : Ts) : (varOne acc t).length ≤ acc.length + 1 := by
  unfold varOne
  split
  · omega
  split
  · omega
  split
  · omega
  · rw [List.length_append]; simp
theorem vars_len : ∀ (l : List Ts) (acc : List ByteArray), (l.foldl varOne acc).length ≤ acc.length + l.length
  | [], acc => Nat.le_refl _
  | t :: r, acc => by
    have h1 := varOne_len acc t
    have h2 := vars_len r (varOne acc t)
    rw [List.foldl_cons, List.length_cons]; omega
end Go.Proofs.YtnhbjhdkpbhioaaGreatDoor
namespace Go.Proofs.YtnhbjhdkpbhioaaGreatDoor
open Go.RowKit
def IsTss (w : World) (ao : Option Addr) (L : List Ts) : Prop :=
  ∀ (j : Nat) (t : Ts), L[j]? = some t → ∃ b o, ao = some ⟨b, o, none⟩ ∧ w.cell? ⟨b, o + j * 6, none⟩ = some (.int .i64 (t.p : Int)) ∧ w.cell? ⟨b, o + j * 6 + 1, none⟩ = some (.bool t.n) ∧ w.cell? ⟨b, o + j * 6 + 2, none⟩ = some (.string t.v) ∧ w.cell? ⟨b, o + j * 6 + 3, none⟩ = some (.int .i64 t.k) ∧ w.cell? ⟨b, o + j * 6 + 4, none⟩ = some (.int .i64 t.i) ∧ w.cell? ⟨b, o + j * 6 + 5, none⟩ = some (.string t.s)
theorem IsTss.next {w w' : World} {ao : Option Addr} {L : List Ts} (h : IsTss w ao L) (hb : Below w.heap.size w w') : IsTss w' ao L := by
  intro j v hj
  obtain ⟨b, o, h0, h1, h2, h3, h4, h5, h6⟩ := h j v hj
  exact ⟨b, o, h0, keep_cell hb h1, keep_cell hb h2, keep_cell hb h3, keep_cell hb h4, keep_cell hb h5, keep_cell hb h6⟩
theorem IsTss.nil (w : World) (ao : Option Addr) : IsTss w ao [] := fun j v hj => by simp at hj
theorem IsTss.set {w : World} {R j : Nat} {ao : Option Addr} {L : List Ts} {u : Value} (h : IsTss w ao L) (hR : ∀ b o, ao = some ⟨b, o, none⟩ → b ≠ R) : IsTss (w.setCell ⟨R, j, none⟩ u) ao L := by
  intro i v hi
  obtain ⟨b, o, h0, h1, h2, h3, h4, h5, h6⟩ := h i v hi
  have hb := Below.heap_setCell w ⟨R, j, none⟩ u b (hR b o h0)
  exact ⟨b, o, h0, by rw [World.cell?_of_block (a := ⟨b, _, none⟩) hb]; exact h1, by rw [World.cell?_of_block (a := ⟨b, _, none⟩) hb]; exact h2, by rw [World.cell?_of_block (a := ⟨b, _, none⟩) hb]; exact h3, by rw [World.cell?_of_block (a := ⟨b, _, none⟩) hb]; exact h4, by rw [World.cell?_of_block (a := ⟨b, _, none⟩) hb]; exact h5, by rw [World.cell?_of_block (a := ⟨b, _, none⟩) hb]; exact h6⟩
def tC (t : Ts) : List Value := [.int .i64 (t.p : Int), .bool t.n, .string t.v, .int .i64 t.k, .int .i64 t.i, .string t.s]
def tsV (t : Ts) : Value := .agg #[.int .i64 (t.p : Int), .bool t.n, .string t.v, .int .i64 t.k, .int .i64 t.i, .string t.s]
def tsC (L : List Ts) : List Value := L.flatMap tC
theorem tsC_cons (t : Ts) (L : List Ts) : tsC (t :: L) = tC t ++ tsC L := by unfold tsC; rw [List.flatMap_cons]
theorem tsC_snoc (L : List Ts) (t : Ts) : tsC L ++ tC t = tsC (L ++ [t]) := by unfold tsC; rw [List.flatMap_append]; simp
theorem tss_at : ∀ (L : List Ts) (j q : Nat) (t : Ts), L[j]? = some t → q < 6 → (tsC L)[j * 6 + q]? = (tC t)[q]?
  | [], j, q, t, h, _ => by simp at h
  | a :: r, 0, q, t, h, hq => by
    simp at h; subst h
    rw [tsC_cons, Nat.zero_mul, Nat.zero_add, List.getElem?_append_left (by show q < 6; exact hq)]
  | a :: r, j + 1, q, t, h, hq => by
    rw [tsC_cons, show (j + 1) * 6 + q = 6 + (j * 6 + q) by omega, List.getElem?_append_right (by show 6 ≤ _; omega)]
    show (tsC r)[6 + (j * 6 + q) - 6]? = _
    rw [show 6 + (j * 6 + q) - 6 = j * 6 + q by omega]
    exact tss_at r j q t (by simpa using h) hq
theorem own_tss {w : World} {B T : Nat} {v : Value} {L : List Ts} {n : Nat} (hn : L.length = n) (h : w.ownsRow B T 6 v n (tsC L)) : ∃ ao cap, v = .slice ao n cap ∧ IsTss w ao L ∧ n ≤ cap := by
  subst hn
  rcases h.2 with ⟨rfl, h0⟩ | ⟨g, cap, cur, rfl, _, _, hn, _⟩
  · refine ⟨none, 0, by rw [h0], ?_, by omega⟩
    have e : L = [] := List.eq_nil_of_length_eq_zero h0
    subst e
    intro j t hj; simp at hj
  · refine ⟨_, cap, rfl, fun j t hj => ⟨g, 0, rfl, ?_⟩, hn⟩
    have hjl : j < L.length := (List.getElem?_eq_some_iff.1 hj).1
    have hc : ∀ q, q < 6 → w.cell? ⟨g, j * 6 + q, none⟩ = (tC t)[q]? := fun q hq => by
      rw [h.cellAt (j * 6 + q) (by omega), tss_at L j q t hj hq]
    rw [Nat.zero_add]
    exact ⟨hc 0 (by omega), hc 1 (by omega), hc 2 (by omega), hc 3 (by omega), hc 4 (by omega), hc 5 (by omega)⟩
def zeroTs : Value := .agg #[.int .i64 0, .bool false, .string ⟨#[]⟩, .int .i64 0, .int .i64 0, .string ⟨#[]⟩]
theorem infoTs : (Tryz.prog.info? 88).map (fun i => (i.zero, i.size, i.bytes)) = some (some zeroTs, 6, 64) := by kernel_rfl
theorem infoTs' : ∃ i, Tryz.prog.info? 88 = some i ∧ i.zero = some zeroTs ∧ i.size = 6 ∧ i.bytes = 64 := by
  obtain ⟨i, h, e⟩ := Option.map_eq_some_iff.1 infoTs
  simp only [Prod.mk.injEq] at e
  exact ⟨i, h, e.1, e.2.1, e.2.2⟩
theorem infoRTs : (Tryz.prog.info? 125).map (fun i => (i.zero, i.size, i.bytes)) = some (some zeroTs, 6, 64) := by kernel_rfl
theorem infoRTs' : ∃ i, Tryz.prog.info? 125 = some i ∧ i.zero = some zeroTs ∧ i.size = 6 ∧ i.bytes = 64 := by
  obtain ⟨i, h, e⟩ := Option.map_eq_some_iff.1 infoRTs
  simp only [Prod.mk.injEq] at e
  exact ⟨i, h, e.1, e.2.1, e.2.2⟩
theorem infoBd : (Tryz.prog.info? 91).map (fun i => (i.zero, i.size, i.bytes)) = some (some zeroSl, 4, 48) := by kernel_rfl
theorem infoBd' : ∃ i, Tryz.prog.info? 91 = some i ∧ i.zero = some zeroSl ∧ i.size = 4 ∧ i.bytes = 48 := by
  obtain ⟨i, h, e⟩ := Option.map_eq_some_iff.1 infoBd
  simp only [Prod.mk.injEq] at e
  exact ⟨i, h, e.1, e.2.1, e.2.2⟩
theorem infoRBd : (Tryz.prog.info? 158).map (fun i => (i.zero, i.size, i.bytes)) = some (some zeroSl, 4, 48) := by kernel_rfl
theorem infoRBd' : ∃ i, Tryz.prog.info? 158 = some i ∧ i.zero = some zeroSl ∧ i.size = 4 ∧ i.bytes = 48 := by
  obtain ⟨i, h, e⟩ := Option.map_eq_some_iff.1 infoRBd
  simp only [Prod.mk.injEq] at e
  exact ⟨i, h, e.1, e.2.1, e.2.2⟩
def ptV (p : Ptn) (ao : Option Addr) (cap : Nat) : Value := .agg #[.string p.t, .slice ao p.l.length cap]
end Go.Proofs.YtnhbjhdkpbhioaaGreatDoor
namespace Go.Proofs.YtnhbjhdkpbhioaaGreatDoor
open Go.RowKit
theorem calls_in {K : Nat} {args : Array Value} {W2 W : World} {Q : Ending → World → Prop} (hB : Below W2.heap.size W2 W) (h : Below W2.heap.size W2 W → Calls Tryz.prog K args W Q) : Calls Tryz.prog K args W Q := h hB
theorem bel6 {w W : World} {B b : Nat} (h : Below B w W) (hb : B ≤ b) (v0 v1 v2 v3 v4 v5 : Value) : Below B w ((((((W.setCell ⟨b, 0, none⟩ v0).setCell ⟨b, 1, none⟩ v1).setCell ⟨b, 2, none⟩ v2).setCell ⟨b, 3, none⟩ v3).setCell ⟨b, 4, none⟩ v4).setCell ⟨b, 5, none⟩ v5) :=
  set_bel (set_bel (set_bel (set_bel (set_bel (set_bel h hb) hb) hb) hb) hb) hb
theorem bel6a {w W : World} {B b : Nat} (h : Below B w W) (hb : B ≤ b) (hB : B ≤ W.heap.size) (v0 v1 v2 v3 v4 v5 : Value) (o : Obj) : Below B w (((((((W.setCell ⟨b, 0, none⟩ v0).setCell ⟨b, 1, none⟩ v1).setCell ⟨b, 2, none⟩ v2).setCell ⟨b, 3, none⟩ v3).setCell ⟨b, 4, none⟩ v4).setCell ⟨b, 5, none⟩ v5).alloc o) :=
  (bel6 h hb v0 v1 v2 v3 v4 v5).alloc (by simp [World.setCell]; exact hB) o
theorem pfault_any (a e : Int) (w : World) :
    Calls Tryz.prog 44 #[.int .i64 a, .int .i64 e] w fun r w' => r = .returned (.iface 133 (.pointer (some ⟨w.heap.size, 0, none⟩))) ∧ FaultAt w' w.heap.size a e ∧ Below w.heap.size w w' := by
  go_enter Tryz.func44, Tryz.ntmps44
  go_wp2
  go_ret
  refine ⟨rfl, ?_, alloc_below _ _⟩
  show (w.heap.push _)[w.heap.size]? = _
  rw [Array.getElem?_push_size]; rfl
theorem psymbol_any (Y : ByteArray) (w : World) :
    Calls Tryz.prog 57 #[.string Y] w fun e w' => e = .returned (.agg #[.int .i64 (2), .int .i64 (0), .int .i64 (0), .string (Y), .slice none 0 0]) ∧ Below w.heap.size w w' := by
  go_enter Tryz.func57, Tryz.ntmps57
  go_wp2
  exact bodyPost_ret (v := .agg #[.int .i64 (2), .int .i64 (0), .int .i64 (0), .string (Y), .slice none 0 0]) (by simp [results, Tryz.results57, go_sem]) rfl ⟨rfl, alloc_below _ _⟩
theorem plist_any (ao : Option Addr) (n cap : Nat) (w : World) :
    Calls Tryz.prog 59 #[.slice ao n cap] w fun e w' => e = .returned (.agg #[.int .i64 (0), .int .i64 (0), .int .i64 (0), .string (⟨#[]⟩), .slice ao n cap]) ∧ Below w.heap.size w w' := by
  go_enter Tryz.func59, Tryz.ntmps59
  go_wp2
  exact bodyPost_ret (v := .agg #[.int .i64 (0), .int .i64 (0), .int .i64 (0), .string (⟨#[]⟩), .slice ao n cap]) (by simp [results, Tryz.results59, go_sem]) rfl ⟨rfl, alloc_below _ _⟩
theorem hassl_any (ao : Option Addr) (n cap p : Nat) (w : World) :
    Calls Tryz.prog 58 #[.slice ao n cap, .int .i64 (p : Int)] w fun e w' => e = .returned (.bool (decide (p < n))) ∧ w' = w := by
  have h0 : (0 : Int) ≤ (p : Int) := by omega
  by_cases h : p < n
  · have hi : (p : Int) < (n : Int) := by omega
    rw [decide_eq_true h]
    go_enter Tryz.func58, Tryz.ntmps58
    go_wp2
    go_ret
    exact ⟨rfl, rfl⟩
  · have hi : ¬ (p : Int) < (n : Int) := by omega
    rw [decide_eq_false h]
    go_enter Tryz.func58, Tryz.ntmps58
    go_wp2
    go_ret
    exact ⟨rfl, rfl⟩
theorem hasval_any (ao : Option Addr) (n cap p : Nat) (w : World) :
    Calls Tryz.prog 73 #[.slice ao n cap, .int .i64 (p : Int)] w fun e w' => e = .returned (.bool (decide (p < n))) ∧ w' = w := by
  have h0 : (0 : Int) ≤ (p : Int) := by omega
  by_cases h : p < n
  · have hi : (p : Int) < (n : Int) := by omega
    rw [decide_eq_true h]
    go_enter Tryz.func73, Tryz.ntmps73
    go_wp2
    go_ret
    exact ⟨rfl, rfl⟩
  · have hi : ¬ (p : Int) < (n : Int) := by omega
    rw [decide_eq_false h]
    go_enter Tryz.func73, Tryz.ntmps73
    go_wp2
    go_ret
    exact ⟨rfl, rfl⟩
def hasH (x : Nd) : Bool := (headO x).isSome
theorem hasH_k {k : Int} {a : Nat} {i : Int} {s : List UInt8} {l : List Nd} (h : k ≠ 0) : hasH ⟨k, a, i, s, l⟩ = false := by unfold hasH headO; rw [if_neg h]; rfl
theorem hasH_nil (a : Nat) (i : Int) (s : List UInt8) : hasH ⟨0, a, i, s, []⟩ = false := rfl
theorem hasH_yes (a : Nat) (i : Int) (s : List UInt8) (a' : Nat) (i' : Int) (s' : List UInt8) (l' r : List Nd) : hasH ⟨0, a, i, s, ⟨2, a', i', s', l'⟩ :: r⟩ = true := rfl
theorem hasH_no {a : Nat} {i : Int} {s : List UInt8} {y : Nd} {r : List Nd} (h : y.k ≠ 2) : hasH ⟨0, a, i, s, y :: r⟩ = false := by unfold hasH headO; simp [h]
set_option maxHeartbeats 4000000 in
set_option maxRecDepth 20000 in
theorem hashead_any (x : Nd) (ao : Option Addr) (cap : Nat) (w : World) (hc : x.l.length ≤ cap) (hk : IsNds w anyB ao x.l) :
    Calls Tryz.prog 43 #[ndV x ao cap] w fun e w' => e = .returned (.bool (hasH x)) ∧ Below w.heap.size w w' := by
  unfold ndV
  obtain ⟨k, a, i, s, l⟩ := x
  simp only at hc hk ⊢
  by_cases hk0 : k = 0
  · subst hk0
    cases l with
    | nil =>
      rw [hasH_nil]
      go_enter Tryz.func43, Tryz.ntmps43
      go_wp2
      go_ret
      exact ⟨rfl, alloc_below _ _⟩
    | cons y r =>
      obtain ⟨b, o, ao', cap', rfl, hA⟩ := hk.at (j := 0) rfl
      rw [Nat.zero_mul, Nat.add_zero] at hA
      have c0 := alloc_cell (w := w) (o := .cells #[.int .i64 0, .int .i64 (a : Int), .int .i64 i, .string (baL s), .slice (some ⟨b, o, none⟩) (y :: r).length cap] 43) hA.c0
      obtain ⟨yk, ya, yi, ys, yl⟩ := y
      simp only at c0
      obtain ⟨n, hn⟩ : ∃ n : Nat, (Nd.mk yk ya yi ys yl :: r).length = n + 1 := ⟨_, rfl⟩
      rw [hn] at c0 hc ⊢
      have hd : (0 : Int) < (n : Int) + 1 := by omega
      by_cases hy : yk = 2
      · subst hy
        rw [hasH_yes]
        clear hk hA hn
        go_enter Tryz.func43, Tryz.ntmps43
        go_wp2
        go_ret
        exact ⟨rfl, alloc_below _ _⟩
      · have hd2 : (yk == 2) = false := by simpa using hy
        rw [hasH_no hy]
        clear hk hA hn hy
        go_enter Tryz.func43, Tryz.ntmps43
        go_wp2
        go_ret
        exact ⟨rfl, alloc_below _ _⟩
  · have hd : (k == 0) = false := by simpa using hk0
    rw [hasH_k hk0]
    clear hk
    go_enter Tryz.func43, Tryz.ntmps43
    go_wp2
    go_ret
    exact ⟨rfl, alloc_below _ _⟩
set_option maxHeartbeats 4000000 in
set_option maxRecDepth 8000 in
theorem holds_any (p : Nat) (n : Bool) (v : ByteArray) (tk ti : Int) (ts : ByteArray) (k i : Int) (s : ByteArray) (k' i' : Int) (s' : ByteArray) (w : World) :
    Calls Tryz.prog 71 #[.agg #[.int .i64 (p : Int), .bool n, .string v, .int .i64 tk, .int .i64 ti, .string ts], .agg #[.int .i64 (k), .int .i64 (i), .string (s)], .agg #[.int .i64 (k'), .int .i64 (i'), .string (s')]] w fun e w' => e = .returned (.bool (holdT ⟨p, n, v, tk, ti, ts⟩ k i s k' i' s')) ∧ Below w.heap.size w w' := by
  obtain ⟨q, HQ⟩ : ∃ q, Hid (sameB k i s k' i' s' = q) := ⟨_, rfl⟩
  have HR : Hid (holdT ⟨p, n, v, tk, ti, ts⟩ k i s k' i' s' = (q != n)) := by rw [Hid]; unfold holdT; rw [HQ.out]
  rw [HR.out]
  have HSm : Hid (∀ w : World, Calls Tryz.prog 102 #[.agg #[.int .i64 (k), .int .i64 (i), .string (s)], .agg #[.int .i64 (k'), .int .i64 (i'), .string (s')]] w fun e w' => e = .returned (.bool q) ∧ Below w.heap.size w w') := by
    intro w; rw [← HQ.out]; exact same_any k i k' i' s s' w
  obtain ⟨W, HWe⟩ : ∃ W, Hid (((w.alloc (.cells #[.int .i64 (p : Int), .bool n, .string v, .int .i64 tk, .int .i64 ti, .string ts] 88)).alloc (.cells #[.int .i64 k, .int .i64 i, .string s] 71)).alloc (.cells #[.int .i64 k', .int .i64 i', .string s'] 71) = W) := ⟨_, rfl⟩
  have HB : Hid (Below w.heap.size w W) := by rw [← HWe.out]; exact next_trans (next_trans (alloc_below _ _) (alloc_below _ _)) (alloc_below _ _)
  have HX : Hid (Bx W w.heap.size #[.int .i64 (p : Int), .bool n, .string v, .int .i64 tk, .int .i64 ti, .string ts]) := by rw [← HWe.out]; exact ((Bx.made _ _ _).alloc _).alloc _
  have HY : Hid (Bx W (w.heap.size + 1) #[.int .i64 k, .int .i64 i, .string s]) := by
    rw [← HWe.out]; exact (Bx.made' rfl (by simp)).alloc _
  have HZ : Hid (Bx W (w.heap.size + 1 + 1) #[.int .i64 k', .int .i64 i', .string s']) := Bx.made' HWe.out (by simp)
  have x1 : W.cell? ⟨w.heap.size, 1, none⟩ = some (.bool n) := HX.out.cell 1
  have y0 : W.cell? ⟨w.heap.size + 1, 0, none⟩ = some (.int .i64 k) := HY.out.cell 0
  have y1 : W.cell? ⟨w.heap.size + 1, 1, none⟩ = some (.int .i64 i) := HY.out.cell 1
  have y2 : W.cell? ⟨w.heap.size + 1, 2, none⟩ = some (.string s) := HY.out.cell 2
  have z0 : W.cell? ⟨w.heap.size + 1 + 1, 0, none⟩ = some (.int .i64 k') := HZ.out.cell 0
  have z1 : W.cell? ⟨w.heap.size + 1 + 1, 1, none⟩ = some (.int .i64 i') := HZ.out.cell 1
  have z2 : W.cell? ⟨w.heap.size + 1 + 1, 2, none⟩ = some (.string s') := HZ.out.cell 2
  clear HR
  go_enter Tryz.func71, Tryz.ntmps71
  go_wp2_with fail
  rw [HWe.out]
  clear HWe
  go_region_held3 (fun w' => w'.cell? ⟨w.heap.size, 1, none⟩ = some (.bool n) ∧ w'.cell? ⟨w.heap.size + 1, 0, none⟩ = some (.int .i64 k) ∧ w'.cell? ⟨w.heap.size + 1, 1, none⟩ = some (.int .i64 i) ∧ w'.cell? ⟨w.heap.size + 1, 2, none⟩ = some (.string s) ∧ w'.cell? ⟨w.heap.size + 1 + 1, 0, none⟩ = some (.int .i64 k') ∧ w'.cell? ⟨w.heap.size + 1 + 1, 1, none⟩ = some (.int .i64 i') ∧ w'.cell? ⟨w.heap.size + 1 + 1, 2, none⟩ = some (.string s'))
    (((try dsimp only); go_split_ands; refine ⟨?_, ?_, ?_, ?_, ?_, ?_, ?_⟩ <;> first | assumption | exact keep_cell (by assumption) (by assumption)))
    (first
      | (go_at_call 102; refine (HSm.out _).mono ?_; rintro e w4 ⟨rfl, hb⟩; have hb4 := hb))
  all_goals
    go_split_ands
    have HB4 : Hid (Below w.heap.size w w4) := next_trans HB.out (below_undrawn hb4)
    clear hb hb4 x1 y0 y1 y2 z0 z1 z2
    cases q <;> cases n <;> (go_wp2; go_ret; exact ⟨rfl, HB4.out⟩)
end Go.Proofs.YtnhbjhdkpbhioaaGreatDoor
namespace Go.Proofs.YtnhbjhdkpbhioaaGreatDoor
open Go.RowKit
def IsTps (w : World) (ao : Option Addr) (L : List Tp) : Prop :=
  ∀ (j : Nat) (t : Tp), L[j]? = some t → ∃ (b o : Nat) (to : Option Addr) (tc : Nat), ao = some ⟨b, o, none⟩ ∧ w.cell? ⟨b, o + j * 2, none⟩ = some (.string t.n) ∧ w.cell? ⟨b, o + j * 2 + 1, none⟩ = some (.slice to t.l.length tc) ∧ IsSls w to t.l
theorem IsTps.next {w w' : World} {ao : Option Addr} {L : List Tp} (h : IsTps w ao L) (hb : Below w.heap.size w w') : IsTps w' ao L := by
  intro j v hj
  obtain ⟨b, o, to, tc, h0, h1, h2, h3⟩ := h j v hj
  exact ⟨b, o, to, tc, h0, keep_cell hb h1, keep_cell hb h2, h3.next hb⟩
def plI (L : List Tp) (n : ByteArray) : Int := match plT L n with
  | some p => (p : Int)
  | none => -1
theorem plI_at {L : List Tp} {n : ByteArray} {p : Nat} (h : plT L n = some p) : plI L n = (p : Int) := by unfold plI; rw [h]
theorem plI_no {L : List Tp} {n : ByteArray} (h : plT L n = none) : plI L n = -1 := by unfold plI; rw [h]
set_option maxHeartbeats 2000000 in
set_option maxRecDepth 8000 in
theorem findfn_any (tn : ByteArray) (ao : Option Addr) (n cap b : Nat) (m : ByteArray) (w : World) (hm : w.cell? ⟨b, 0, none⟩ = some (.string m)) :
    Calls Tryz.prog 82 #[.agg #[.string tn, .slice ao n cap], .pointer (some ⟨b, 0, none⟩)] w fun e w' => e = .returned (.bool (decide (tn = m))) ∧ Below w.heap.size w w' := by
  have hm2 := alloc_cell (w := w) (o := .cells #[.string tn, .slice ao n cap] 108) hm
  by_cases he : tn = m
  · have hd : (tn.toList == m.toList) = true := by rw [beq_ba]; exact decide_eq_true he
    rw [decide_eq_true he]
    clear he
    go_enter Tryz.func82, Tryz.ntmps82
    go_wp2
    go_ret
    exact ⟨rfl, alloc_below _ _⟩
  · have hd : (tn.toList == m.toList) = false := by rw [beq_ba]; exact decide_eq_false he
    rw [decide_eq_false he]
    clear he
    go_enter Tryz.func82, Tryz.ntmps82
    go_wp2
    go_ret
    exact ⟨rfl, alloc_below _ _⟩
set_option maxHeartbeats 4000000 in
set_option maxRecDepth 8000 in
theorem indextp_any (L : List Tp) (N : Nat) (ao : Option Addr) (cap b : Nat) (m : ByteArray) (w : World) (hL : L.length = N) (hN : N ≤ 1000) (h : IsTps w ao L) (hm : w.cell? ⟨b, 0, none⟩ = some (.string m)) :
    Calls Tryz.prog 81 #[.slice ao N cap, .func (.func 82) #[] #[.pointer (some ⟨b, 0, none⟩)]] w fun e w' => e = .returned (.int .i64 (plI L m)) ∧ Below w.heap.size w w' := by
  have HL : Hid (L.length = N) := hL
  have HI : Hid (IsTps w ao L) := h
  have HM : Hid (w.cell? ⟨b, 0, none⟩ = some (.string m)) := hm
  obtain ⟨P, HP⟩ : ∃ P, Hid (plI L m = P) := ⟨_, rfl⟩
  rw [HP.out]
  clear hL h hm
  go_enter Tryz.func81, Tryz.ntmps81
  go_wp2
  go_loopw [8] (fun q wr => ∃ k : Nat, k ≤ N ∧ q = .int .i64 k ∧ Hid (Below w.heap.size w wr) ∧ Hid (∀ i s, i < k → L[i]? = some s → s.n ≠ m)) (fun q _ => N - (intOf q).toNat)
  case atStart => exact ⟨0, Nat.zero_le _, rfl, Below.refl _ _, fun m s hm => absurd hm (by omega)⟩
  case round =>
    obtain ⟨k, hk, rfl, HB, HA⟩ := hrel
    by_cases hlt : k < N
    · have hki : (k : Int) < (N : Int) := by omega
      have hk0 : (0 : Int) ≤ (k : Int) := by omega
      obtain ⟨s, hs⟩ : ∃ s, L[k]? = some s := ⟨_, List.getElem?_eq_getElem (by rw [HL.out]; exact hlt)⟩
      obtain ⟨bq, o, to, tc, rfl, c0, c1, _⟩ := (HI.out.next HB.out) k s hs
      have HS : Hid (L[k]? = some s) := hs
      have hm : wr.cell? ⟨b, 0, none⟩ = some (.string m) := keep_cell HB.out HM.out
      obtain ⟨sn, sl⟩ := s
      simp only at c0 c1
      obtain ⟨M, HMl⟩ : ∃ M, Hid (sl.length = M) := ⟨_, rfl⟩
      rw [HMl.out] at c1
      have HF : Hid (Calls Tryz.prog 82 #[.agg #[.string sn, .slice to M tc], .pointer (some ⟨b, 0, none⟩)] wr fun e w' => e = .returned (.bool (decide (sn = m))) ∧ Below wr.heap.size wr w') := findfn_any sn to M tc b m wr hm
      clear hs hm
      by_cases he : sn = m
      · have hq : plT L m = some k := plT_at L m k _ HS.out he HA.out
        obtain rfl : P = (k : Int) := by rw [← HP.out, plI_at hq]
        rw [decide_eq_true he] at HF
        clear HA HS he hq HP HI
        go_wp2_with (go_at_call 82; refine HF.out.mono ?_; rintro e w2 ⟨rfl, hb2⟩)
        go_ret
        exact ⟨rfl, next_trans HB.out hb2⟩
      · have HA2 : Hid (∀ i s, i < k + 1 → L[i]? = some s → s.n ≠ m) := fun i s hi his => by
          by_cases e : i = k
          · subst e; rw [HS.out] at his; cases his; exact he
          · exact HA.out i s (by omega) his
        rw [decide_eq_false he] at HF
        clear HA HS he
        go_wp2_with (go_at_call 82; refine HF.out.mono ?_; rintro e w2 ⟨rfl, hb2⟩)
        have HB2 : Hid (Below w.heap.size w w2) := next_trans HB.out hb2
        go_roundw
        case rel => exact ⟨k + 1, by omega, by go_num, HB2, HA2⟩
        case measure => simp [intOf]; omega
    · have hki : ¬ (k : Int) < (N : Int) := by omega
      have hq : plT L m = none := (plT_none L m).2 fun s hs => by
        obtain ⟨i, hi⟩ := List.getElem?_of_mem hs
        exact HA.out i s (by have := (List.getElem?_eq_some_iff.1 hi).1; rw [HL.out] at this; omega) hi
      obtain rfl : P = -1 := by rw [← HP.out, plI_no hq]
      clear HA hq HP HI
      go_wp2
      go_ret
      exact ⟨rfl, HB.out⟩
def tpAt (L : List Tp) (n : ByteArray) : Tp := match plT L n with
  | none => ⟨noS, []⟩
  | some p => match L[p]? with
    | none => ⟨noS, []⟩
    | some t => t
theorem tpAt_no {L : List Tp} {n : ByteArray} (h : plT L n = none) : tpAt L n = ⟨noS, []⟩ := by unfold tpAt; rw [h]
theorem tpAt_at {L : List Tp} {n : ByteArray} {p : Nat} {t : Tp} (h : plT L n = some p) (h2 : L[p]? = some t) : tpAt L n = t := by unfold tpAt; rw [h]; simp only; rw [h2]
theorem tpAt_slots {L : List Tp} {n : ByteArray} {p : Nat} (h : plT L n = some p) : (tpAt L n).l = slotsAt L p ∧ (tpAt L n).n = n := by
  obtain ⟨s, h1, h2, _⟩ := plT_some L n p h
  rw [tpAt_at h h1]
  exact ⟨by unfold slotsAt; rw [h1], h2⟩
set_option maxHeartbeats 4000000 in
set_option maxRecDepth 8000 in
theorem pfind_any (L : List Tp) (N : Nat) (ao : Option Addr) (cap : Nat) (m : ByteArray) (w : World) (hL : L.length = N) (hN : N ≤ 1000) (h : IsTps w ao L) :
    Calls Tryz.prog 45 #[.slice ao N cap, .string m] w fun e w' => (∃ to tc, e = .returned (.tuple #[tmV (tpAt L m) to tc, .bool (plT L m).isSome]) ∧ IsSls w to (tpAt L m).l) ∧ Below w.heap.size w w' := by
  obtain ⟨W, HWe⟩ : ∃ W, Hid ((w.alloc (.cells #[.string m] 9)).alloc (.cells #[.string ⟨#[]⟩, .slice none 0 0] 108) = W) := ⟨_, rfl⟩
  have HB : Hid (Below w.heap.size w W) := by rw [← HWe.out]; exact next_trans (alloc_below _ _) (alloc_below _ _)
  have HX : Hid (Bx W w.heap.size #[.string m]) := by rw [← HWe.out]; exact (Bx.made _ _ _).alloc _
  have HY : Hid (Bx W (w.heap.size + 1) #[.string ⟨#[]⟩, .slice none 0 0]) := Bx.made' HWe.out (by simp)
  have HC : Hid (Calls Tryz.prog 81 #[.slice ao N cap, .func (.func 82) #[] #[.pointer (some ⟨w.heap.size, 0, none⟩)]] W fun e w' => e = .returned (.int .i64 (plI L m)) ∧ Below W.heap.size W w') :=
    indextp_any L N ao cap w.heap.size m W hL hN (h.next HB.out) (HX.out.cell 0)
  have HI : Hid (∀ w', Below w.heap.size w w' → IsTps w' ao L) := fun w' hb => h.next hb
  have HL : Hid (L.length = N) := hL
  clear h hL
  cases hq : plT L m with
  | none =>
    rw [plI_no hq] at HC
    rw [tpAt_no hq]
    go_enter Tryz.func45, Tryz.ntmps45
    go_wp2_with fail
    rw [HWe.out]
    clear HWe
    refine HC.out.mono ?_
    rintro e w1 ⟨rfl, hb1⟩
    have HB1 : Hid (Below w.heap.size w w1) := next_trans HB.out hb1
    have HY1 : Hid (Bx w1 (w.heap.size + 1) #[.string ⟨#[]⟩, .slice none 0 0]) := HY.out.next hb1
    have r0 : w1.cell? ⟨w.heap.size + 1, 0, none⟩ = some (.string ⟨#[]⟩) := HY1.out.cell 0
    have r1 : w1.cell? ⟨w.heap.size + 1, 1, none⟩ = some (.slice none 0 0) := HY1.out.cell 1
    have rf := HY1.out.froz
    have hl : w.heap.size + 1 < w1.heap.size := HY1.out.lt
    clear hb1 HC HX HY HB
    have HBe : Hid (Below w.heap.size w ((w1.setCell ⟨w.heap.size + 1, 0, none⟩ (.string ⟨#[]⟩)).setCell ⟨w.heap.size + 1, 1, none⟩ (.slice none 0 0))) := set_bel (set_bel HB1.out (by omega)) (by omega)
    clear hq HI HY1
    go_wp2
    exact bodyPost_ret (v := .tuple #[.agg #[.string ⟨#[]⟩, .slice none 0 0], .bool false]) (by simp [results, Tryz.results45, go_sem, r0, r1]) rfl ⟨⟨none, 0, rfl, IsSls.nil _ _⟩, HBe.out⟩
  | some p =>
    obtain ⟨t, ht, hx1, hx2⟩ := plT_some L m p hq
    clear hx1 hx2
    obtain ⟨b, o, to, tc, rfl, c0, c1, hs⟩ := HI.out w (Below.refl _ _) p t ht
    have hpl : p < N := by have := (List.getElem?_eq_some_iff.1 ht).1; rw [HL.out] at this; exact this
    have hpi : (p : Int) < (N : Int) := by omega
    have hp0 : (0 : Int) ≤ (p : Int) := by omega
    have hpn : ¬ (p : Int) < 0 := by omega
    rw [plI_at hq] at HC
    rw [tpAt_at hq ht]
    obtain ⟨tn, tl⟩ := t
    simp only at c0 c1 hs
    unfold tmV
    simp only
    obtain ⟨C, HCl⟩ : ∃ C, Hid (tl.length = C) := ⟨_, rfl⟩
    rw [HCl.out] at c1 ⊢
    go_enter Tryz.func45, Tryz.ntmps45
    go_wp2_with fail
    rw [HWe.out]
    clear HWe
    refine HC.out.mono ?_
    rintro e w1 ⟨rfl, hb1⟩
    have HB1 : Hid (Below w.heap.size w w1) := next_trans HB.out hb1
    have HY1 : Hid (Bx w1 (w.heap.size + 1) #[.string ⟨#[]⟩, .slice none 0 0]) := HY.out.next hb1
    have r0 : w1.cell? ⟨w.heap.size + 1, 0, none⟩ = some (.string ⟨#[]⟩) := HY1.out.cell 0
    have r1 : w1.cell? ⟨w.heap.size + 1, 1, none⟩ = some (.slice none 0 0) := HY1.out.cell 1
    have rf := HY1.out.froz
    have hl : w.heap.size + 1 < w1.heap.size := HY1.out.lt
    clear hb1 HC HX HY HB
    replace c0 := keep_cell HB1.out c0
    replace c1 := keep_cell HB1.out c1
    have HBe : Hid (Below w.heap.size w ((w1.setCell ⟨w.heap.size + 1, 0, none⟩ (.string tn)).setCell ⟨w.heap.size + 1, 1, none⟩ (.slice to C tc))) := set_bel (set_bel HB1.out (by omega)) (by omega)
    have HS : Hid (IsSls w to tl) := hs
    clear hq HI HY1 hs ht HL
    go_wp2
    exact bodyPost_ret (v := .tuple #[.agg #[.string tn, .slice to C tc], .bool true]) (by simp [results, Tryz.results45, go_sem, r0, r1]) rfl ⟨⟨to, tc, rfl, HS.out⟩, HBe.out⟩
theorem slotfn_any (t : Ts) (b p : Nat) (w : World) (hm : w.cell? ⟨b, 0, none⟩ = some (.int .i64 (p : Int))) :
    Calls Tryz.prog 85 #[tsV t, .pointer (some ⟨b, 0, none⟩)] w fun e w' => e = .returned (.bool (decide (t.p = p))) ∧ Below w.heap.size w w' := by
  obtain ⟨tp, tn, tv, tk, ti, ts⟩ := t
  unfold tsV
  simp only
  have hm2 := alloc_cell (w := w) (o := .cells #[.int .i64 (tp : Int), .bool tn, .string tv, .int .i64 tk, .int .i64 ti, .string ts] 88) hm
  by_cases he : tp = p
  · have hd : ((tp : Int) == (p : Int)) = true := by simp [he]
    rw [decide_eq_true he]
    clear he
    go_enter Tryz.func85, Tryz.ntmps85
    go_wp2
    go_ret
    exact ⟨rfl, alloc_below _ _⟩
  · have hd : ((tp : Int) == (p : Int)) = false := by simp; omega
    rw [decide_eq_false he]
    go_enter Tryz.func85, Tryz.ntmps85
    go_wp2
    go_ret
    exact ⟨rfl, alloc_below _ _⟩
set_option maxHeartbeats 4000000 in
set_option maxRecDepth 8000 in
theorem indexts_any (L : List Ts) (N : Nat) (ao : Option Addr) (cap b p : Nat) (w : World) (hL : L.length = N) (hN : N ≤ 100000) (h : IsTss w ao L) (hm : w.cell? ⟨b, 0, none⟩ = some (.int .i64 (p : Int))) :
    Calls Tryz.prog 115 #[.slice ao N cap, .func (.func 85) #[] #[.pointer (some ⟨b, 0, none⟩)]] w fun e w' => (∃ q : Int, e = .returned (.int .i64 q) ∧ hasP L p = decide (0 ≤ q)) ∧ Below w.heap.size w w' := by
  have HL : Hid (L.length = N) := hL
  have HI : Hid (IsTss w ao L) := h
  have HM : Hid (w.cell? ⟨b, 0, none⟩ = some (.int .i64 (p : Int))) := hm
  obtain ⟨P, HP⟩ : ∃ P, Hid (hasP L p = P) := ⟨_, rfl⟩
  rw [HP.out]
  clear hL h hm
  go_enter Tryz.func115, Tryz.ntmps115
  go_wp2
  go_loopw [8] (fun q wr => ∃ k : Nat, k ≤ N ∧ q = .int .i64 k ∧ Hid (Below w.heap.size w wr) ∧ Hid (∀ i s, i < k → L[i]? = some s → s.p ≠ p)) (fun q _ => N - (intOf q).toNat)
  case atStart => exact ⟨0, Nat.zero_le _, rfl, Below.refl _ _, fun m s hm => absurd hm (by omega)⟩
  case round =>
    obtain ⟨k, hk, rfl, HB, HA⟩ := hrel
    by_cases hlt : k < N
    · have hki : (k : Int) < (N : Int) := by omega
      have hk0 : (0 : Int) ≤ (k : Int) := by omega
      obtain ⟨s, hs⟩ : ∃ s, L[k]? = some s := ⟨_, List.getElem?_eq_getElem (by rw [HL.out]; exact hlt)⟩
      obtain ⟨bq, o, rfl, c0, c1, c2, c3, c4, c5⟩ := (HI.out.next HB.out) k s hs
      have HS : Hid (L[k]? = some s) := hs
      have hm : wr.cell? ⟨b, 0, none⟩ = some (.int .i64 (p : Int)) := keep_cell HB.out HM.out
      obtain ⟨tp, tn, tv, tk, ti, ts⟩ := s
      simp only at c0 c1 c2 c3 c4 c5
      have HF : Hid (Calls Tryz.prog 85 #[.agg #[.int .i64 (tp : Int), .bool tn, .string tv, .int .i64 tk, .int .i64 ti, .string ts], .pointer (some ⟨b, 0, none⟩)] wr fun e w' => e = .returned (.bool (decide (tp = p))) ∧ Below wr.heap.size wr w') := slotfn_any ⟨tp, tn, tv, tk, ti, ts⟩ b p wr hm
      clear hs hm
      by_cases he : tp = p
      · obtain rfl : P = true := by
          rw [← HP.out]; unfold hasP; rw [List.any_eq_true]; exact ⟨_, List.mem_of_getElem? HS.out, decide_eq_true he⟩
        rw [decide_eq_true he] at HF
        clear HA HS he HP HI
        go_wp2_with (go_at_call 85; refine HF.out.mono ?_; rintro e w2 ⟨rfl, hb2⟩)
        go_ret
        exact ⟨⟨_, rfl, (decide_eq_true hk0).symm⟩, next_trans HB.out hb2⟩
      · have HA2 : Hid (∀ i s, i < k + 1 → L[i]? = some s → s.p ≠ p) := fun i s hi his => by
          by_cases e : i = k
          · subst e; rw [HS.out] at his; cases his; exact he
          · exact HA.out i s (by omega) his
        rw [decide_eq_false he] at HF
        clear HA HS he
        go_wp2_with (go_at_call 85; refine HF.out.mono ?_; rintro e w2 ⟨rfl, hb2⟩)
        have HB2 : Hid (Below w.heap.size w w2) := next_trans HB.out hb2
        go_roundw
        case rel => exact ⟨k + 1, by omega, by go_num, HB2, HA2⟩
        case measure => simp [intOf]; omega
    · have hki : ¬ (k : Int) < (N : Int) := by omega
      obtain rfl : P = false := by
        rw [← HP.out, hasP_no]
        intro s hs
        obtain ⟨i, hi⟩ := List.getElem?_of_mem hs
        exact HA.out i s (by have := (List.getElem?_eq_some_iff.1 hi).1; rw [HL.out] at this; omega) hi
      clear HA HP HI
      go_wp2
      go_ret
      exact ⟨⟨_, rfl, by decide⟩, HB.out⟩
set_option maxHeartbeats 2000000 in
set_option maxRecDepth 8000 in
theorem hasts_any (L : List Ts) (N : Nat) (ao : Option Addr) (cap b p : Nat) (w : World) (hL : L.length = N) (hN : N ≤ 100000) (h : IsTss w ao L) (hm : w.cell? ⟨b, 0, none⟩ = some (.int .i64 (p : Int))) :
    Calls Tryz.prog 84 #[.slice ao N cap, .func (.func 85) #[] #[.pointer (some ⟨b, 0, none⟩)]] w fun e w' => e = .returned (.bool (hasP L p)) ∧ Below w.heap.size w w' := by
  obtain ⟨P, HP⟩ : ∃ P, Hid (hasP L p = P) := ⟨_, rfl⟩
  have HC : Hid (Calls Tryz.prog 115 #[.slice ao N cap, .func (.func 85) #[] #[.pointer (some ⟨b, 0, none⟩)]] w fun e w' => (∃ q : Int, e = .returned (.int .i64 q) ∧ P = decide (0 ≤ q)) ∧ Below w.heap.size w w') := by
    rw [← HP.out]; exact indexts_any L N ao cap b p w hL hN h hm
  rw [HP.out]
  clear hL h hm HP
  go_enter Tryz.func84, Tryz.ntmps84
  go_wp2_with fail
  refine HC.out.mono ?_
  rintro e w1 ⟨⟨q, rfl, hq⟩, hb1⟩
  clear HC
  by_cases h0 : 0 ≤ q
  · rw [decide_eq_true h0] at hq
    subst hq
    go_wp2
    go_ret
    exact ⟨rfl, hb1⟩
  · rw [decide_eq_false h0] at hq
    subst hq
    go_wp2
    go_ret
    exact ⟨by show Ending.returned (.bool (decide (0 ≤ q))) = _; rw [decide_eq_false (by omega)], hb1⟩
end Go.Proofs.YtnhbjhdkpbhioaaGreatDoor
namespace Go.Proofs.YtnhbjhdkpbhioaaGreatDoor
open Go.RowKit
set_option maxHeartbeats 2000000 in
set_option maxRecDepth 8000 in
theorem rtfind_any (L : List Tp) (N : Nat) (ao : Option Addr) (cap : Nat) (n : ByteArray) (w : World) (hL : L.length = N) (hN : N ≤ 1000) (h : IsTps w ao L) :
    Calls Tryz.prog 48 #[.slice ao N cap, .string n] w fun e w' => e = .returned (.int .i64 (plI L n)) ∧ Below w.heap.size w w' := by
  obtain ⟨P, HP⟩ : ∃ P, Hid (plI L n = P) := ⟨_, rfl⟩
  rw [HP.out]
  have HL : Hid (L.length = N) := hL
  have HI : Hid (IsTps w ao L) := h
  clear h hL
  go_enter Tryz.func48, Tryz.ntmps48
  go_wp2
  go_loopw [5] (fun q wr => ∃ k : Nat, k ≤ N ∧ q = .int .i64 k ∧ Hid (Below w.heap.size w wr) ∧ Hid (∀ m s, m < k → L[m]? = some s → s.n ≠ n)) (fun q _ => N - (intOf q).toNat)
  case atStart => exact ⟨0, Nat.zero_le _, rfl, Below.refl _ _, fun m s hm => absurd hm (by omega)⟩
  case round =>
    obtain ⟨k, hk, rfl, HB, HF⟩ := hrel
    by_cases hlt : k < N
    · have hki : (k : Int) < (N : Int) := by omega
      have hk0 : (0 : Int) ≤ (k : Int) := by omega
      obtain ⟨s, hs⟩ : ∃ s, L[k]? = some s := ⟨_, List.getElem?_eq_getElem (by rw [HL.out]; exact hlt)⟩
      obtain ⟨b, o, to, tc, rfl, c0, c1, _⟩ := (HI.out.next HB.out) k s hs
      have HS : Hid (L[k]? = some s) := hs
      obtain ⟨sn, sl⟩ := s
      simp only at c0 c1
      clear hs
      by_cases hx : sn = n
      · have hd : (sn.toList == n.toList) = true := by rw [beq_ba]; exact decide_eq_true hx
        have HPe : Hid (P = (k : Int)) := by rw [Hid, ← HP.out]; exact plI_at (plT_at L n k _ HS.out hx HF.out)
        clear hx HP
        go_wp2
        rw [HPe.out]
        go_ret
        exact ⟨rfl, HB.out⟩
      · have hd : (sn.toList == n.toList) = false := by rw [beq_ba]; exact decide_eq_false hx
        have HF2 : Hid (∀ m s, m < k + 1 → L[m]? = some s → s.n ≠ n) := fun m s hm hs e => by
          by_cases hmk : m < k
          · exact HF.out m s hmk hs e
          · obtain rfl : m = k := by omega
            rw [HS.out] at hs
            simp at hs
            subst hs
            exact hx e
        clear hx
        go_wp2
        go_roundw
        case rel => exact ⟨k + 1, by omega, by go_num, HB, HF2⟩
        case measure => simp [intOf]; omega
    · have hki : ¬ (k : Int) < (N : Int) := by omega
      have HPe : Hid (P = -1) := by
        rw [Hid, ← HP.out]
        refine plI_no ((plT_none L n).2 (fun s hs => ?_))
        obtain ⟨m, hm, rfl⟩ := List.getElem_of_mem hs
        exact HF.out m _ (by rw [HL.out] at hm; omega) (List.getElem?_eq_getElem hm)
      clear HP
      go_wp2
      rw [HPe.out]
      go_ret
      exact ⟨rfl, HB.out⟩
end Go.Proofs.YtnhbjhdkpbhioaaGreatDoor
namespace Go.Proofs.YtnhbjhdkpbhioaaGreatDoor
open Go.RowKit
def PlR (Q : Option Ts) (e : Ending) : Prop := ∃ t : Ts, e = .returned (.tuple #[tsV t, .bool Q.isSome]) ∧ ∀ t', Q = some t' → t = t'
theorem PlR.yes {Q : Option Ts} {t : Ts} (h : Q = some t) : PlR Q (.returned (.tuple #[tsV t, .bool true])) := by subst h; exact ⟨t, rfl, fun t' h => by cases h; rfl⟩
theorem PlR.no {Q : Option Ts} (t : Ts) (h : Q = none) : PlR Q (.returned (.tuple #[tsV t, .bool false])) := by subst h; exact ⟨t, rfl, fun t' h => by cases h⟩
theorem isE_yes {Y : ByteArray} (h : Y = noS) : Y.toList.isEmpty = true := by subst h; rw [Lib.toList_data]; rfl
theorem isE_no {Y : ByteArray} (h : Y ≠ noS) : Y.toList.isEmpty = false := by
  cases e : Y.toList with
  | nil =>
    exact absurd (ByteArray.ext (by rw [Lib.toList_data] at e; rw [← Array.toArray_toList (xs := Y.data), e]; rfl)) h
  | cons a r => rfl
set_option maxHeartbeats 4000000 in
set_option maxRecDepth 8000 in
theorem pplain_any (x : Nd) (ao : Option Addr) (cap : Nat) (w : World) :
    Calls Tryz.prog 116 #[ndV x ao cap] w fun e w' => PlR (plainN x) e ∧ Below w.heap.size w w' := by
  obtain ⟨Q, HQ⟩ : ∃ Q, Hid (plainN x = Q) := ⟨_, rfl⟩
  obtain ⟨V, HV⟩ : ∃ V, Hid (valN x = V) := ⟨_, rfl⟩
  have HVal : Hid (∀ w, Calls Tryz.prog 136 #[ndV x ao cap] w fun e w' => e = .returned (.tuple #[.agg #[.int .i64 ((valN x).1), .int .i64 ((valN x).2.1), .string (baL (valN x).2.2.1)], .bool (valN x).2.2.2]) ∧ Below w.heap.size w w') := fun w => value_any5 x ao cap w
  obtain ⟨K, A, I, Y, M, H, Hx⟩ := nd_open x ao cap
  rw [H.out, HV.out] at HVal
  rw [H.out, HQ.out]
  obtain ⟨vk, vi, vl, vb⟩ := V
  simp only at HVal
  obtain ⟨S, HS⟩ : ∃ S, Hid (baL vl = S) := ⟨_, rfl⟩
  rw [HS.out] at HVal
  obtain ⟨W, HWe⟩ : ∃ W, Hid ((w.alloc (.cells #[.int .i64 K, .int .i64 A, .int .i64 I, .string Y, .slice ao M cap] 43)).alloc (.cells #[.int .i64 0, .bool false, .string ⟨#[]⟩, .int .i64 0, .int .i64 0, .string ⟨#[]⟩] 88) = W) := ⟨_, rfl⟩
  have HB : Hid (Below w.heap.size w W) := by rw [← HWe.out]; exact next_trans (alloc_below _ _) (alloc_below _ _)
  have HX : Hid (Bx W w.heap.size #[.int .i64 K, .int .i64 A, .int .i64 I, .string Y, .slice ao M cap]) := by rw [← HWe.out]; exact (Bx.made _ _ _).alloc _
  have HR : Hid (Bx W (w.heap.size + 1) #[.int .i64 0, .bool false, .string ⟨#[]⟩, .int .i64 0, .int .i64 0, .string ⟨#[]⟩]) := Bx.made' HWe.out (by simp)
  have x0 : W.cell? ⟨w.heap.size, 0, none⟩ = some (.int .i64 K) := HX.out.cell 0
  have x1 : W.cell? ⟨w.heap.size, 1, none⟩ = some (.int .i64 A) := HX.out.cell 1
  have x2 : W.cell? ⟨w.heap.size, 2, none⟩ = some (.int .i64 I) := HX.out.cell 2
  have x3 : W.cell? ⟨w.heap.size, 3, none⟩ = some (.string Y) := HX.out.cell 3
  have x4 : W.cell? ⟨w.heap.size, 4, none⟩ = some (.slice ao M cap) := HX.out.cell 4
  have hl : w.heap.size + 1 < W.heap.size := HR.out.lt
  by_cases hk : K = 6
  · have r0 : W.cell? ⟨w.heap.size + 1, 0, none⟩ = some (.int .i64 0) := HR.out.cell 0
    have r1 : W.cell? ⟨w.heap.size + 1, 1, none⟩ = some (.bool false) := HR.out.cell 1
    have r2 : W.cell? ⟨w.heap.size + 1, 2, none⟩ = some (.string ⟨#[]⟩) := HR.out.cell 2
    have r3 : W.cell? ⟨w.heap.size + 1, 3, none⟩ = some (.int .i64 0) := HR.out.cell 3
    have r4 : W.cell? ⟨w.heap.size + 1, 4, none⟩ = some (.int .i64 0) := HR.out.cell 4
    have r5 : W.cell? ⟨w.heap.size + 1, 5, none⟩ = some (.string ⟨#[]⟩) := HR.out.cell 5
    have rf := HR.out.froz
    have hxk := Hx.out.1
    have hxs := Hx.out.2.2.2.1
    subst hk
    have HBe := fun v0 v1 v2 v3 v4 v5 => (bel6 (b := w.heap.size + 1) HB.out (by omega) v0 v1 v2 v3 v4 v5).drew
    by_cases hy : Y = noS
    · have hd := isE_yes hy
      have HQn : Hid (Q = none) := by
        rw [Hid, ← HQ.out]; unfold plainN
        rw [if_pos hxk, if_pos]
        rw [hy] at hxs
        rw [← baL_list x.s, hxs]; rfl
      subst hy
      clear Hx H HVal hxk hxs HX HR HV HQ
      go_enter Tryz.func116, Tryz.ntmps116
      go_wp2
      rw [HWe.out]
      clear HWe
      go_region
      all_goals
        go_wp2
        exact bodyPost_ret (v := .tuple #[tsV ⟨0, false, noS, 0, 0, noS⟩, .bool false]) (by simp [results, Tryz.results116, go_sem, r0, r1, r2, r3, r4, r5, tsV, noS]) rfl ⟨PlR.no _ HQn.out, HBe _ _ _ _ _ _⟩
    · have hd := isE_no hy
      have HQn : Hid (Q = some ⟨0, false, Y, 0, 0, noS⟩) := by
        rw [Hid, ← HQ.out]; unfold plainN
        rw [if_pos hxk, if_neg, hxs]
        intro e
        rw [e] at hxs
        exact hy hxs.symm
      clear Hx H HVal hxk hxs HX HR HV HQ hy
      go_enter Tryz.func116, Tryz.ntmps116
      go_wp2
      rw [HWe.out]
      clear HWe
      go_region
      all_goals
        go_wp2
        exact bodyPost_ret (v := .tuple #[tsV ⟨0, false, Y, 0, 0, noS⟩, .bool true]) (by simp [results, Tryz.results116, go_sem, r0, r1, r2, r3, r4, r5, tsV, noS]) rfl ⟨PlR.yes HQn.out, HBe _ _ _ _ _ _⟩
  · have hd : (K == 6) = false := by simpa using hk
    have HQn : Hid (Q = if vb = true then some ⟨0, false, noS, vk, vi, S⟩ else none) := by
      rw [Hid, ← HQ.out]; unfold plainN
      rw [if_neg (by rw [Hx.out.1]; exact hk), HV.out, ← HS.out]
    clear Hx H HX HV HQ hk
    go_enter Tryz.func116, Tryz.ntmps116
    go_wp2_with fail
    rw [HWe.out]
    clear HWe
    refine (HVal.out W).mono ?_
    rintro e w1 ⟨rfl, hb1⟩
    have HB1 : Hid (Below w.heap.size w w1) := next_trans HB.out hb1
    have HR1 : Hid (Bx w1 (w.heap.size + 1) #[.int .i64 0, .bool false, .string ⟨#[]⟩, .int .i64 0, .int .i64 0, .string ⟨#[]⟩]) := HR.out.next hb1
    have r0 : w1.cell? ⟨w.heap.size + 1, 0, none⟩ = some (.int .i64 0) := HR1.out.cell 0
    have r1 : w1.cell? ⟨w.heap.size + 1, 1, none⟩ = some (.bool false) := HR1.out.cell 1
    have r2 : w1.cell? ⟨w.heap.size + 1, 2, none⟩ = some (.string ⟨#[]⟩) := HR1.out.cell 2
    have r3 : w1.cell? ⟨w.heap.size + 1, 3, none⟩ = some (.int .i64 0) := HR1.out.cell 3
    have r4 : w1.cell? ⟨w.heap.size + 1, 4, none⟩ = some (.int .i64 0) := HR1.out.cell 4
    have r5 : w1.cell? ⟨w.heap.size + 1, 5, none⟩ = some (.string ⟨#[]⟩) := HR1.out.cell 5
    have rf := HR1.out.froz
    have hl1 : w.heap.size + 1 < w1.heap.size := HR1.out.lt
    have HBe := bel6a (b := w.heap.size + 1) HB1.out (by omega) (by omega)
    clear hb1 x0 x1 x2 x3 x4 HR HB hl HVal
    cases vb with
    | false =>
      have HQ2 : Hid (Q = none) := by rw [Hid, HQn.out]; rfl
      clear HQn
      go_wp2
      exact bodyPost_ret (v := .tuple #[tsV ⟨0, false, noS, vk, vi, S⟩, .bool false]) (by simp [results, Tryz.results116, go_sem, r0, r1, r2, r3, r4, r5, hl1, tsV, noS]) rfl ⟨PlR.no _ HQ2.out, HBe _ _ _ _ _ _ _⟩
    | true =>
      have HQ2 : Hid (Q = some ⟨0, false, noS, vk, vi, S⟩) := by rw [Hid, HQn.out]; rfl
      clear HQn
      go_wp2
      exact bodyPost_ret (v := .tuple #[tsV ⟨0, false, noS, vk, vi, S⟩, .bool true]) (by simp [results, Tryz.results116, go_sem, r0, r1, r2, r3, r4, r5, hl1, tsV, noS]) rfl ⟨PlR.yes HQ2.out, HBe _ _ _ _ _ _ _⟩
theorem term_bad {x : Nd} (h : x.k = 8) (h2 : x.l.length ≠ 1) : termN x = none := by
  obtain ⟨k, a, i, s, l⟩ := x
  simp only at h h2
  unfold termN
  rw [if_pos h]
  match l, h2 with
  | [], _ => rfl
  | [_], h2 => exact absurd rfl h2
  | _ :: _ :: _, _ => rfl
theorem term_not {x y : Nd} (h : x.k = 8) (h2 : x.l.length = 1) (h3 : x.l[0]? = some y) : termN x = (plainN y).map notTs := by
  obtain ⟨k, a, i, s, l⟩ := x
  simp only at h h2 h3
  unfold termN
  rw [if_pos h]
  match l, h2, h3 with
  | [z], _, h3 => simp at h3; subst h3; rfl
set_option maxHeartbeats 4000000 in
set_option maxRecDepth 8000 in
theorem pterm_any (x : Nd) (ao : Option Addr) (cap : Nat) (w : World) (hc : x.l.length ≤ cap) (hb : x.l.length ≤ 100000) (hk : IsNds w anyB ao x.l) :
    Calls Tryz.prog 86 #[ndV x ao cap] w fun e w' => PlR (termN x) e ∧ Below w.heap.size w w' := by
  obtain ⟨Q, HQ⟩ : ∃ Q, Hid (termN x = Q) := ⟨_, rfl⟩
  have HPl : Hid (∀ w, Calls Tryz.prog 116 #[ndV x ao cap] w fun e w' => PlR (plainN x) e ∧ Below w.heap.size w w') := fun w => pplain_any x ao cap w
  obtain ⟨K, A, I, Y, M, H, Hx⟩ := nd_open x ao cap
  rw [H.out] at HPl
  rw [H.out, HQ.out]
  have HI : Hid (IsNds w anyB ao x.l) := hk
  rw [Hx.out.2.2.2.2] at hc hb
  obtain ⟨W, HWe⟩ : ∃ W, Hid ((w.alloc (.cells #[.int .i64 K, .int .i64 A, .int .i64 I, .string Y, .slice ao M cap] 43)).alloc (.cells #[.int .i64 0, .bool false, .string ⟨#[]⟩, .int .i64 0, .int .i64 0, .string ⟨#[]⟩] 88) = W) := ⟨_, rfl⟩
  have HB : Hid (Below w.heap.size w W) := by rw [← HWe.out]; exact next_trans (alloc_below _ _) (alloc_below _ _)
  have HX : Hid (Bx W w.heap.size #[.int .i64 K, .int .i64 A, .int .i64 I, .string Y, .slice ao M cap]) := by rw [← HWe.out]; exact (Bx.made _ _ _).alloc _
  have HR : Hid (Bx W (w.heap.size + 1) #[.int .i64 0, .bool false, .string ⟨#[]⟩, .int .i64 0, .int .i64 0, .string ⟨#[]⟩]) := Bx.made' HWe.out (by simp)
  have x0 : W.cell? ⟨w.heap.size, 0, none⟩ = some (.int .i64 K) := HX.out.cell 0
  have x1 : W.cell? ⟨w.heap.size, 1, none⟩ = some (.int .i64 A) := HX.out.cell 1
  have x2 : W.cell? ⟨w.heap.size, 2, none⟩ = some (.int .i64 I) := HX.out.cell 2
  have x3 : W.cell? ⟨w.heap.size, 3, none⟩ = some (.string Y) := HX.out.cell 3
  have x4 : W.cell? ⟨w.heap.size, 4, none⟩ = some (.slice ao M cap) := HX.out.cell 4
  have hl : w.heap.size + 1 < W.heap.size := HR.out.lt
  clear hk
  by_cases h8 : K = 8
  case neg =>
    have hd : (K == 8) = false := by simpa using h8
    have HQp : Hid (Q = plainN x) := by rw [Hid, ← HQ.out]; unfold termN; rw [if_neg (by rw [Hx.out.1]; exact h8)]
    rw [HQp.out]
    clear Hx H HX HQ h8 HI HQp
    go_enter Tryz.func86, Tryz.ntmps86
    go_wp2_with fail
    rw [HWe.out]
    clear HWe
    refine (HPl.out W).mono ?_
    rintro e w1 ⟨⟨⟨tp, tn, tv, tk, ti, ts⟩, rfl, ht⟩, hb1⟩
    have HT : Hid (PlR (plainN x) (.returned (.tuple #[tsV ⟨tp, tn, tv, tk, ti, ts⟩, .bool (plainN x).isSome]))) := ⟨_, rfl, ht⟩
    obtain ⟨ok, Hok⟩ : ∃ ok, Hid ((plainN x).isSome = ok) := ⟨_, rfl⟩
    rw [Hok.out] at HT ⊢
    unfold tsV
    simp only
    have HB1 : Hid (Below w.heap.size w w1) := next_trans HB.out hb1
    have HR1 : Hid (Bx w1 (w.heap.size + 1) #[.int .i64 0, .bool false, .string ⟨#[]⟩, .int .i64 0, .int .i64 0, .string ⟨#[]⟩]) := HR.out.next hb1
    have r0 : w1.cell? ⟨w.heap.size + 1, 0, none⟩ = some (.int .i64 0) := HR1.out.cell 0
    have r1 : w1.cell? ⟨w.heap.size + 1, 1, none⟩ = some (.bool false) := HR1.out.cell 1
    have r2 : w1.cell? ⟨w.heap.size + 1, 2, none⟩ = some (.string ⟨#[]⟩) := HR1.out.cell 2
    have r3 : w1.cell? ⟨w.heap.size + 1, 3, none⟩ = some (.int .i64 0) := HR1.out.cell 3
    have r4 : w1.cell? ⟨w.heap.size + 1, 4, none⟩ = some (.int .i64 0) := HR1.out.cell 4
    have r5 : w1.cell? ⟨w.heap.size + 1, 5, none⟩ = some (.string ⟨#[]⟩) := HR1.out.cell 5
    have rf := HR1.out.froz
    have hl1 : w.heap.size + 1 < w1.heap.size := HR1.out.lt
    have HBe := bel6 (b := w.heap.size + 1) HB1.out (by omega)
    clear hb1 x0 x1 x2 x3 x4 HR HB hl HPl ht HR1 Hok
    go_wp2
    exact bodyPost_ret (v := .tuple #[.agg #[.int .i64 (tp : Int), .bool tn, .string tv, .int .i64 tk, .int .i64 ti, .string ts], .bool ok]) (by simp [results, Tryz.results86, go_sem, r0, r1, r2, r3, r4, r5]) rfl ⟨HT.out, HBe _ _ _ _ _ _⟩
  subst h8
  by_cases hm : M = 1
  case neg =>
    have hd : ((M : Int) == 1) = false := by simp; omega
    have HQn : Hid (Q = none) := by rw [Hid, ← HQ.out]; exact term_bad Hx.out.1 (by rw [Hx.out.2.2.2.2]; exact hm)
    have r0 : W.cell? ⟨w.heap.size + 1, 0, none⟩ = some (.int .i64 0) := HR.out.cell 0
    have r1 : W.cell? ⟨w.heap.size + 1, 1, none⟩ = some (.bool false) := HR.out.cell 1
    have r2 : W.cell? ⟨w.heap.size + 1, 2, none⟩ = some (.string ⟨#[]⟩) := HR.out.cell 2
    have r3 : W.cell? ⟨w.heap.size + 1, 3, none⟩ = some (.int .i64 0) := HR.out.cell 3
    have r4 : W.cell? ⟨w.heap.size + 1, 4, none⟩ = some (.int .i64 0) := HR.out.cell 4
    have r5 : W.cell? ⟨w.heap.size + 1, 5, none⟩ = some (.string ⟨#[]⟩) := HR.out.cell 5
    have rf := HR.out.froz
    clear Hx H HX HQ HI HPl HR hm
    go_enter Tryz.func86, Tryz.ntmps86
    go_wp2
    rw [HWe.out]
    clear HWe
    exact bodyPost_ret (v := .tuple #[tsV ⟨0, false, noS, 0, 0, noS⟩, .bool false]) (by simp [results, Tryz.results86, go_sem, r0, r1, r2, r3, r4, r5, tsV, noS]) rfl ⟨PlR.no _ HQn.out, HB.out⟩
  subst hm
  obtain ⟨y, hy⟩ := kid_at (l := x.l) (j := 0) (by rw [Hx.out.2.2.2.2]; omega)
  obtain ⟨b, o, va, vc, K1, A1, I1, Y1, M1, rfl, H1, Hv, hw1, Hk1⟩ := kid_get HI.out hy
  have HQm : Hid (Q = (plainN y).map notTs) := by rw [Hid, ← HQ.out]; exact term_not Hx.out.1 Hx.out.2.2.2.2 hy
  have HP1 : Hid (∀ w, Calls Tryz.prog 116 #[.agg #[.int .i64 (K1), .int .i64 (A1), .int .i64 (I1), .string (Y1), .slice va M1 vc]] w fun e w' => PlR (plainN y) e ∧ Below w.heap.size w w') := by rw [← H1.out]; exact fun w => pplain_any y va vc w
  obtain ⟨c0, c1, c2, c3, c4⟩ := hw1
  rw [Nat.zero_mul, Nat.add_zero] at c0 c1 c2 c3 c4
  have hbl := World.block_lt_of_cell? w _ c0
  simp only at hbl
  clear Hx H HX HQ HI HPl H1 Hv Hk1 hy
  go_enter Tryz.func86, Tryz.ntmps86
  go_wp2_with fail
  rw [HWe.out]
  clear HWe
  refine (HP1.out W).mono ?_
  rintro e w1 ⟨⟨⟨tp, tn, tv, tk, ti, ts⟩, rfl, ht⟩, hb1⟩
  obtain ⟨q, Hq⟩ : ∃ q, Hid (plainN y = q) := ⟨_, rfl⟩
  rw [Hq.out] at ht HQm ⊢
  have HT : Hid (∀ t', q = some t' → (⟨tp, tn, tv, tk, ti, ts⟩ : Ts) = t') := ht
  unfold tsV
  simp only
  have HB1 : Hid (Below w.heap.size w w1) := next_trans HB.out hb1
  have HR1 : Hid (Bx w1 (w.heap.size + 1) #[.int .i64 0, .bool false, .string ⟨#[]⟩, .int .i64 0, .int .i64 0, .string ⟨#[]⟩]) := HR.out.next hb1
  have r0 : w1.cell? ⟨w.heap.size + 1, 0, none⟩ = some (.int .i64 0) := HR1.out.cell 0
  have r1 : w1.cell? ⟨w.heap.size + 1, 1, none⟩ = some (.bool false) := HR1.out.cell 1
  have r2 : w1.cell? ⟨w.heap.size + 1, 2, none⟩ = some (.string ⟨#[]⟩) := HR1.out.cell 2
  have r3 : w1.cell? ⟨w.heap.size + 1, 3, none⟩ = some (.int .i64 0) := HR1.out.cell 3
  have r4 : w1.cell? ⟨w.heap.size + 1, 4, none⟩ = some (.int .i64 0) := HR1.out.cell 4
  have r5 : w1.cell? ⟨w.heap.size + 1, 5, none⟩ = some (.string ⟨#[]⟩) := HR1.out.cell 5
  have rf := HR1.out.froz
  have hl1 : w.heap.size + 1 < w1.heap.size := HR1.out.lt
  have HBe := bel6a (b := w.heap.size + 1) HB1.out (by omega) (by omega)
  clear hb1 x0 x1 x2 x3 x4 c0 c1 c2 c3 c4 HR HB hl HP1 ht HR1 Hq
  cases q with
  | none =>
    go_wp2
    exact bodyPost_ret (v := .tuple #[tsV ⟨tp, false, tv, tk, ti, ts⟩, .bool false]) (by simp [results, Tryz.results86, go_sem, r0, r1, r2, r3, r4, r5, hl1, tsV]) rfl ⟨PlR.no _ HQm.out, HBe _ _ _ _ _ _ _⟩
  | some t' =>
    have e := HT.out t' rfl
    subst e
    go_wp2
    exact bodyPost_ret (v := .tuple #[tsV ⟨tp, true, tv, tk, ti, ts⟩, .bool true]) (by simp [results, Tryz.results86, go_sem, r0, r1, r2, r3, r4, r5, hl1, tsV]) rfl ⟨PlR.yes HQm.out, HBe _ _ _ _ _ _ _⟩
end Go.Proofs.YtnhbjhdkpbhioaaGreatDoor
namespace Go.Proofs.YtnhbjhdkpbhioaaGreatDoor
open Go.RowKit
set_option maxHeartbeats 8000000 in
set_option maxRecDepth 8000 in
theorem tequal_any (L : List Ts) (N : Nat) (ao bo : Option Addr) (ca cb : Nat) (w : World) (hL : L.length = N) (hN : N ≤ 1000) (h : IsTss w ao L) (h2 : IsTss w bo L) :
    Calls Tryz.prog 61 #[.slice ao N ca, .slice bo N cb] w fun e w' => e = .returned (.bool true) ∧ Below w.heap.size w w' := by
  have HL : Hid (L.length = N) := hL
  have HI : Hid (IsTss w ao L) := h
  have HJ : Hid (IsTss w bo L) := h2
  have hn : ((N : Int) != (N : Int)) = false := by simp
  clear hL h h2
  go_enter Tryz.func61, Tryz.ntmps61
  go_wp2
  go_loopw [13] (fun q wr => ∃ k : Nat, k ≤ N ∧ q = .int .i64 k ∧ Hid (Below w.heap.size w wr)) (fun q _ => N - (intOf q).toNat)
  case atStart => exact ⟨0, Nat.zero_le _, rfl, Below.refl _ _⟩
  case round =>
    obtain ⟨k, hk, rfl, HB⟩ := hrel
    by_cases hlt : k < N
    · have hki : (k : Int) < (N : Int) := by omega
      have hk0 : (0 : Int) ≤ (k : Int) := by omega
      obtain ⟨s, hs⟩ : ∃ s, L[k]? = some s := ⟨_, List.getElem?_eq_getElem (by rw [HL.out]; exact hlt)⟩
      obtain ⟨b, o, rfl, c0, c1, c2, c3, c4, c5⟩ := (HI.out.next HB.out) k s hs
      obtain ⟨b2, o2, rfl, d0, d1, d2, d3, d4, d5⟩ := (HJ.out.next HB.out) k s hs
      obtain ⟨tp, tn, tv, tk, ti, ts⟩ := s
      simp only at c0 c1 c2 c3 c4 c5 d0 d1 d2 d3 d4 d5
      clear hs
      go_wp2
      go_region_held3 (fun w' => w'.cell? ⟨b, o + k * 6, none⟩ = some (.int .i64 (tp : Int)) ∧ w'.cell? ⟨b, o + k * 6 + 1, none⟩ = some (.bool tn) ∧ w'.cell? ⟨b, o + k * 6 + 2, none⟩ = some (.string tv) ∧ w'.cell? ⟨b, o + k * 6 + 3, none⟩ = some (.int .i64 tk) ∧ w'.cell? ⟨b, o + k * 6 + 4, none⟩ = some (.int .i64 ti) ∧ w'.cell? ⟨b, o + k * 6 + 5, none⟩ = some (.string ts) ∧ w'.cell? ⟨b2, o2 + k * 6, none⟩ = some (.int .i64 (tp : Int)) ∧ w'.cell? ⟨b2, o2 + k * 6 + 1, none⟩ = some (.bool tn) ∧ w'.cell? ⟨b2, o2 + k * 6 + 2, none⟩ = some (.string tv) ∧ w'.cell? ⟨b2, o2 + k * 6 + 3, none⟩ = some (.int .i64 tk) ∧ w'.cell? ⟨b2, o2 + k * 6 + 4, none⟩ = some (.int .i64 ti) ∧ w'.cell? ⟨b2, o2 + k * 6 + 5, none⟩ = some (.string ts))
        (((try dsimp only); go_split_ands; refine ⟨?_, ?_, ?_, ?_, ?_, ?_, ?_, ?_, ?_, ?_, ?_, ?_⟩ <;> first | assumption | exact keep_cell (by assumption) (by assumption)))
        (fail)
      all_goals
        go_split_ands
        have HB2 : Hid (Below w.heap.size w wr.drew) := HB.out.drew
        go_wp2
        go_roundw
        case rel => exact ⟨k + 1, by omega, by go_num, HB2⟩
        case measure => simp [intOf]; omega
    · have hki : ¬ (k : Int) < (N : Int) := by omega
      go_wp2
      go_ret
      exact ⟨rfl, HB.out⟩
set_option maxHeartbeats 4000000 in
set_option maxRecDepth 8000 in
theorem psame_any (P : Ptn) (ao bo : Option Addr) (ca cb : Nat) (w : World) (hN : P.l.length ≤ 1000) (h : IsTss w ao P.l) (h2 : IsTss w bo P.l) :
    Calls Tryz.prog 18 #[ptV P ao ca, ptV P bo cb] w fun e w' => e = .returned (.bool true) ∧ Below w.heap.size w w' := by
  obtain ⟨tn, l⟩ := P
  unfold ptV
  simp only at hN h h2 ⊢
  obtain ⟨N, HN⟩ : ∃ N, Hid (l.length = N) := ⟨_, rfl⟩
  have HQ : Hid (∀ w', Below w.heap.size w w' → Calls Tryz.prog 61 #[.slice ao N ca, .slice bo N cb] w' fun e w2 => e = .returned (.bool true) ∧ Below w'.heap.size w' w2) := fun w' hw =>
    tequal_any l N ao bo ca cb w' HN.out (by rw [HN.out] at hN; exact hN) (h.next hw) (h2.next hw)
  rw [HN.out]
  have hd : (tn.toList == tn.toList) = true := by rw [beq_ba]; exact decide_eq_true rfl
  obtain ⟨W, HWe⟩ : ∃ W, Hid ((w.alloc (.cells #[.string tn, .slice ao N ca] 36)).alloc (.cells #[.string tn, .slice bo N cb] 36) = W) := ⟨_, rfl⟩
  have HB : Hid (Below w.heap.size w W) := by rw [← HWe.out]; exact next_trans (alloc_below _ _) (alloc_below _ _)
  clear h h2 hN
  go_enter Tryz.func18, Tryz.ntmps18
  go_wp2_with fail
  rw [HWe.out]
  refine (HQ.out W HB.out).mono ?_
  rintro e w1 ⟨rfl, hb⟩
  have HB1 : Hid (Below w.heap.size w w1) := next_trans HB.out hb
  clear hb
  go_wp2
  go_ret
  exact ⟨rfl, HB1.out⟩
set_option maxHeartbeats 8000000 in
set_option maxRecDepth 8000 in
theorem rpsame_any (P : Ptn) (ao bo : Option Addr) (ca cb : Nat) (w : World) (hN : P.l.length ≤ 1000) (h : IsTss w ao P.l) (h2 : IsTss w bo P.l) :
    Calls Tryz.prog 15 #[ptV P ao ca, ptV P bo cb] w fun e w' => e = .returned (.bool true) ∧ Below w.heap.size w w' := by
  obtain ⟨tn, l⟩ := P
  unfold ptV
  simp only at hN h h2 ⊢
  obtain ⟨N, HN⟩ : ∃ N, Hid (l.length = N) := ⟨_, rfl⟩
  rw [HN.out] at hN ⊢
  have HI : Hid (IsTss w ao l) := h
  have HJ : Hid (IsTss w bo l) := h2
  have hd : (tn.toList == tn.toList) = true := by rw [beq_ba]; exact decide_eq_true rfl
  have hn : ((N : Int) != (N : Int)) = false := by simp
  obtain ⟨W, HWe⟩ : ∃ W, Hid ((w.alloc (.cells #[.string tn, .slice ao N ca] 49)).alloc (.cells #[.string tn, .slice bo N cb] 49) = W) := ⟨_, rfl⟩
  have HB : Hid (Below w.heap.size w W) := by rw [← HWe.out]; exact next_trans (alloc_below _ _) (alloc_below _ _)
  have HA : Hid (Bx W w.heap.size #[.string tn, .slice ao N ca]) := by rw [← HWe.out]; exact (Bx.made _ _ _).alloc _
  have HC : Hid (Bx W (w.heap.size + 1) #[.string tn, .slice bo N cb]) := Bx.made' HWe.out (by simp)
  clear h h2
  go_enter Tryz.func15, Tryz.ntmps15
  go_wp2
  rw [HWe.out]
  clear HWe
  go_loopw [5] (fun q wr => ∃ k : Nat, k ≤ N ∧ q = .int .i64 k ∧ Hid (Below w.heap.size w wr) ∧ Hid (Bx wr w.heap.size #[.string tn, .slice ao N ca]) ∧ Hid (Bx wr (w.heap.size + 1) #[.string tn, .slice bo N cb])) (fun q _ => N - (intOf q).toNat)
  case atStart => exact ⟨0, Nat.zero_le _, rfl, HB, HA, HC⟩
  case round =>
    obtain ⟨k, hk, rfl, HB, HA, HC⟩ := hrel
    have x1 : wr.cell? ⟨w.heap.size, 1, none⟩ = some (.slice ao N ca) := HA.out.cell 1
    have y1 : wr.cell? ⟨w.heap.size + 1, 1, none⟩ = some (.slice bo N cb) := HC.out.cell 1
    by_cases hlt : k < N
    · have hki : (k : Int) < (N : Int) := by omega
      have hk0 : (0 : Int) ≤ (k : Int) := by omega
      obtain ⟨s, hs⟩ : ∃ s, l[k]? = some s := ⟨_, List.getElem?_eq_getElem (by rw [HN.out]; exact hlt)⟩
      obtain ⟨b, o, rfl, c0, c1, c2, c3, c4, c5⟩ := (HI.out.next HB.out) k s hs
      obtain ⟨b2, o2, rfl, d0, d1, d2, d3, d4, d5⟩ := (HJ.out.next HB.out) k s hs
      obtain ⟨tp, tnn, tv, tk, ti, ts⟩ := s
      simp only at c0 c1 c2 c3 c4 c5 d0 d1 d2 d3 d4 d5
      have hvd : (tv.toList == tv.toList) = true := by rw [beq_ba]; exact decide_eq_true rfl
      have htp : ((tp : Int) != (tp : Int)) = false := by simp
      have htn : (tnn != tnn) = false := by simp
      have hl0 : w.heap.size + 1 < wr.heap.size := HC.out.lt
      have hl1 : w.heap.size < wr.heap.size := HA.out.lt
      have hlb : b < wr.heap.size := World.block_lt_of_cell? wr _ c0
      have hlb2 : b2 < wr.heap.size := World.block_lt_of_cell? wr _ d0
      have HSm : Hid (∀ w : World, Calls Tryz.prog 56 #[.agg #[.int .i64 (tk), .int .i64 (ti), .string (ts)], .agg #[.int .i64 (tk), .int .i64 (ti), .string (ts)]] w fun e w' => e = .returned (.bool true) ∧ Below w.heap.size w w') := by
        intro w; rw [← sameB_refl tk ti ts]; exact rsame_any tk ti tk ti ts ts w
      obtain ⟨W2, HW2⟩ : ∃ W2, Hid ((wr.alloc (.cells #[.int .i64 (tp : Int), .bool tnn, .string tv, .int .i64 tk, .int .i64 ti, .string ts] 125)).alloc (.cells #[.int .i64 (tp : Int), .bool tnn, .string tv, .int .i64 tk, .int .i64 ti, .string ts] 125) = W2) := ⟨_, rfl⟩
      have hb2 : Below wr.heap.size wr W2 := by rw [← HW2.out]; exact next_trans (alloc_below _ _) (alloc_below _ _)
      have HB2 : Hid (Below w.heap.size w W2) := next_trans HB.out hb2
      have HA2 : Hid (Bx W2 w.heap.size #[.string tn, .slice (some ⟨b, o, none⟩) N ca]) := HA.out.next hb2
      have HC2 : Hid (Bx W2 (w.heap.size + 1) #[.string tn, .slice (some ⟨b2, o2, none⟩) N cb]) := HC.out.next hb2
      clear hs hb2
      go_wp2_with fail
      rw [HW2.out]
      refine (HSm.out W2).mono ?_
      rintro e w4 ⟨rfl, hb4⟩
      have HB4 : Hid (Below w.heap.size w w4) := next_trans HB2.out hb4
      have HA4 : Hid (Bx w4 w.heap.size #[.string tn, .slice (some ⟨b, o, none⟩) N ca]) := HA2.out.next hb4
      have HC4 : Hid (Bx w4 (w.heap.size + 1) #[.string tn, .slice (some ⟨b2, o2, none⟩) N cb]) := HC2.out.next hb4
      clear hb4 HW2 HB2 HA2 HC2 c0 c1 c2 c3 c4 c5 d0 d1 d2 d3 d4 d5 x1 y1
      go_wp2
      go_roundw
      case rel => exact ⟨k + 1, by omega, by go_num, HB4, HA4, HC4⟩
      case measure => simp [intOf]; omega
    · have hki : ¬ (k : Int) < (N : Int) := by omega
      go_wp2
      go_ret
      exact ⟨rfl, HB.out⟩
end Go.Proofs.YtnhbjhdkpbhioaaGreatDoor
namespace Go.Proofs.YtnhbjhdkpbhioaaGreatDoor
open Go.RowKit
def NxE : Except Int Ts → Ts → Int → Prop
  | .ok t', t, f => t = t' ∧ f = 0
  | .error g, _, f => f = g
def NxR (Q : Except Int Ts) (e : Ending) : Prop := ∃ (t : Ts) (f : Int), e = .returned (.tuple #[tsV t, .int .i64 f]) ∧ NxE Q t f
theorem NxR.bad {Q : Except Int Ts} {g : Int} (t : Ts) (h : Q = .error g) : NxR Q (.returned (.tuple #[tsV t, .int .i64 g])) := by subst h; exact ⟨t, g, rfl, rfl⟩
theorem NxR.good {Q : Except Int Ts} {t : Ts} (h : Q = .ok t) : NxR Q (.returned (.tuple #[tsV t, .int .i64 0])) := by subst h; exact ⟨t, 0, rfl, rfl, rfl⟩
theorem next_head {T : List Sl} {acc : List Ts} {x : Nd} (h : hasH x = false) : nextR T acc x = .error 2 := by
  unfold nextR
  unfold hasH at h
  cases e : headO x with
  | none => rfl
  | some s => rw [e] at h; cases h
theorem hasH_get {x : Nd} (h : hasH x = true) : ∃ m r, x.l = m :: r ∧ m.k = 2 ∧ headO x = some m.s := by
  obtain ⟨k, a, i, s, l⟩ := x
  unfold hasH headO at h
  simp only at h
  split at h
  · rename_i hk
    split at h
    · rename_i m r
      split at h
      · rename_i hm
        exact ⟨m, r, rfl, hm, by unfold headO; rw [if_pos hk]; simp only; rw [if_pos hm]⟩
      · cases h
    · cases h
  · cases h
theorem next_len {T : List Sl} {acc : List Ts} {x : Nd} (h : x.l.length ≠ 2) : nextR T acc x = .error 2 := by
  unfold nextR
  cases e : headO x with
  | none => rfl
  | some s =>
    simp only
    match x.l, h with
    | [], _ => rfl
    | [_], _ => rfl
    | [_, _], h => exact absurd rfl h
    | _ :: _ :: _ :: _, _ => rfl
theorem next_go {T : List Sl} {acc : List Ts} {x m y : Nd} (h : headO x = some m.s) (hl : x.l = [m, y]) : nextR T acc x = match placeS T (baL m.s) with
    | none => .error 5
    | some p => if hasP acc p = true then .error 6 else (match termN y with
      | none => .error 2
      | some t => .ok (atTs p t)) := by
  unfold nextR
  rw [h, hl]
  try rfl
structure NxW (w wr : World) (pt : ByteArray) (po : Option Addr) (C pc : Nat) (K A I : Int) (Y : ByteArray) (ao : Option Addr) (M cap : Nat) (tn : ByteArray) (to : Option Addr) (N tc : Nat) : Prop where
  bel : Below w.heap.size w wr
  p : Bx wr w.heap.size #[.string pt, .slice po C pc]
  n : Bx wr (w.heap.size + 1) #[.int .i64 K, .int .i64 A, .int .i64 I, .string Y, .slice ao M cap]
  t : Bx wr (w.heap.size + 1 + 1) #[.string tn, .slice to N tc]
  r : Bx wr (w.heap.size + 1 + 1 + 1) #[.int .i64 0, .bool false, .string ⟨#[]⟩, .int .i64 0, .int .i64 0, .string ⟨#[]⟩]
theorem NxW.next {w wr w' : World} {pt : ByteArray} {po : Option Addr} {C pc : Nat} {K A I : Int} {Y : ByteArray} {ao : Option Addr} {M cap : Nat} {tn : ByteArray} {to : Option Addr} {N tc : Nat} (h : NxW w wr pt po C pc K A I Y ao M cap tn to N tc) (hb : Below wr.heap.size wr w') : NxW w w' pt po C pc K A I Y ao M cap tn to N tc :=
  ⟨next_trans h.bel hb, h.p.next hb, h.n.next hb, h.t.next hb, h.r.next hb⟩
theorem NxW.made {w W : World} {pt : ByteArray} {po : Option Addr} {C pc : Nat} {K A I : Int} {Y : ByteArray} {ao : Option Addr} {M cap : Nat} {tn : ByteArray} {to : Option Addr} {N tc : Nat}
    (h : (((w.alloc (.cells #[.string pt, .slice po C pc] 36)).alloc (.cells #[.int .i64 K, .int .i64 A, .int .i64 I, .string Y, .slice ao M cap] 43)).alloc (.cells #[.string tn, .slice to N tc] 108)).alloc (.cells #[.int .i64 0, .bool false, .string ⟨#[]⟩, .int .i64 0, .int .i64 0, .string ⟨#[]⟩] 88) = W) : NxW w W pt po C pc K A I Y ao M cap tn to N tc := by
  refine ⟨?_, ?_, ?_, ?_, ?_⟩
  · rw [← h]; exact next_trans (next_trans (next_trans (alloc_below _ _) (alloc_below _ _)) (alloc_below _ _)) (alloc_below _ _)
  · rw [← h]; exact (((Bx.made _ _ _).alloc _).alloc _).alloc _
  · rw [← h]; exact ((Bx.made' rfl (by simp)).alloc _).alloc _
  · rw [← h]; exact (Bx.made' rfl (by simp)).alloc _
  · exact Bx.made' h (by simp)
theorem NxW.done {w wr : World} {pt : ByteArray} {po : Option Addr} {C pc : Nat} {K A I : Int} {Y : ByteArray} {ao : Option Addr} {M cap : Nat} {tn : ByteArray} {to : Option Addr} {N tc : Nat} (h : NxW w wr pt po C pc K A I Y ao M cap tn to N tc) (v0 v1 v2 v3 v4 v5 : Value) :
    Below w.heap.size w ((((((wr.setCell ⟨w.heap.size + 1 + 1 + 1, 0, none⟩ v0).setCell ⟨w.heap.size + 1 + 1 + 1, 1, none⟩ v1).setCell ⟨w.heap.size + 1 + 1 + 1, 2, none⟩ v2).setCell ⟨w.heap.size + 1 + 1 + 1, 3, none⟩ v3).setCell ⟨w.heap.size + 1 + 1 + 1, 4, none⟩ v4).setCell ⟨w.heap.size + 1 + 1 + 1, 5, none⟩ v5) :=
  set_bel (set_bel (set_bel (set_bel (set_bel (set_bel h.bel (by omega)) (by omega)) (by omega)) (by omega)) (by omega)) (by omega)
set_option maxHeartbeats 8000000 in
set_option maxRecDepth 8000 in
theorem pnextt_any (P : Ptn) (po : Option Addr) (pc : Nat) (x : Nd) (ao : Option Addr) (cap : Nat) (T : Tp) (to : Option Addr) (tc : Nat) (w : World) (hP : P.l.length ≤ 100000) (hs : IsTss w po P.l) (hc : x.l.length ≤ cap) (hb : cntN x ≤ 100000) (hk : IsNds w anyB ao x.l) (hN : T.l.length ≤ 1000) (ht : IsSls w to T.l) :
    Calls Tryz.prog 46 #[ptV P po pc, ndV x ao cap, tmV T to tc] w fun e w' => NxR (nextR T.l P.l x) e ∧ Below w.heap.size w w' := by
  obtain ⟨Q, HQ⟩ : ∃ Q, Hid (nextR T.l P.l x = Q) := ⟨_, rfl⟩
  rw [HQ.out]
  obtain ⟨pt, pl⟩ := P
  obtain ⟨tn, tl⟩ := T
  unfold ptV tmV
  simp only at hP hs hN ht HQ ⊢
  have hML : x.l.length ≤ 100000 := by have h1 := cntL_len x.l; unfold cntN at hb; omega
  have HTs : Hid (IsTss w po pl) := hs
  have HSl : Hid (IsSls w to tl) := ht
  have HKs : Hid (IsNds w anyB ao x.l) := hk
  have HCn : Hid (∀ y ∈ x.l, cntN y ≤ 100000) := fun y hy => by have h1 := cntL_mem x.l y hy; unfold cntN at hb; omega
  obtain ⟨q, Hq⟩ : ∃ q, Hid (hasH x = q) := ⟨_, rfl⟩
  have HHd : Hid (∀ w', Below w.heap.size w w' → Calls Tryz.prog 43 #[ndV x ao cap] w' fun e w2 => e = .returned (.bool q) ∧ Below w'.heap.size w' w2) := by
    rw [← Hq.out]; exact fun w' h => hashead_any x ao cap w' hc (hk.next h)
  obtain ⟨K, A, I, Y, M, H, Hx⟩ := nd_open x ao cap
  have HCL : Hid (x.l.length ≤ cap) := hc
  rw [H.out] at HHd ⊢
  have HMx : Hid (x.l.length = M) := Hx.out.2.2.2.2
  rw [HMx.out] at hML hc
  obtain ⟨C, HC⟩ : ∃ C, Hid (pl.length = C) := ⟨_, rfl⟩
  obtain ⟨N, HN⟩ : ∃ N, Hid (tl.length = N) := ⟨_, rfl⟩
  rw [HC.out] at hP ⊢
  rw [HN.out]
  have HN1 : Hid (tl.length ≤ 1000) := hN
  obtain ⟨W, HWe⟩ : ∃ W, Hid ((((w.alloc (.cells #[.string pt, .slice po C pc] 36)).alloc (.cells #[.int .i64 K, .int .i64 A, .int .i64 I, .string Y, .slice ao M cap] 43)).alloc (.cells #[.string tn, .slice to N tc] 108)).alloc (.cells #[.int .i64 0, .bool false, .string ⟨#[]⟩, .int .i64 0, .int .i64 0, .string ⟨#[]⟩] 88) = W) := ⟨_, rfl⟩
  have HT : Hid (NxW w W pt po C pc K A I Y ao M cap tn to N tc) := NxW.made HWe.out
  have n0 : W.cell? ⟨w.heap.size + 1, 0, none⟩ = some (.int .i64 K) := HT.out.n.cell 0
  have n1 : W.cell? ⟨w.heap.size + 1, 1, none⟩ = some (.int .i64 A) := HT.out.n.cell 1
  have n2 : W.cell? ⟨w.heap.size + 1, 2, none⟩ = some (.int .i64 I) := HT.out.n.cell 2
  have n3 : W.cell? ⟨w.heap.size + 1, 3, none⟩ = some (.string Y) := HT.out.n.cell 3
  have n4 : W.cell? ⟨w.heap.size + 1, 4, none⟩ = some (.slice ao M cap) := HT.out.n.cell 4
  clear hs hk hb hN ht H Hx
  go_enter Tryz.func46, Tryz.ntmps46
  go_wp2_with fail
  rw [HWe.out]
  clear HWe
  refine (HHd.out W HT.out.bel).mono ?_
  rintro e w1 ⟨rfl, hb1⟩
  have HT1 : Hid (NxW w w1 pt po C pc K A I Y ao M cap tn to N tc) := HT.out.next hb1
  have hl1 : w.heap.size + 1 + 1 + 1 < w1.heap.size := HT1.out.r.lt
  clear hb1 n0 n1 n2 n3 n4 HHd HT
  have n4 : w1.cell? ⟨w.heap.size + 1, 4, none⟩ = some (.slice ao M cap) := HT1.out.n.cell 4
  by_cases hbad : q = false ∨ M ≠ 2
  case pos =>
    have HQe : Hid (Q = .error 2) := by
      rw [Hid, ← HQ.out]
      rcases hbad with h | h
      · exact next_head (by rw [Hq.out, h])
      · exact next_len (by rw [HMx.out]; exact h)
    have r0 : w1.cell? ⟨w.heap.size + 1 + 1 + 1, 0, none⟩ = some (.int .i64 0) := HT1.out.r.cell 0
    have r1 : w1.cell? ⟨w.heap.size + 1 + 1 + 1, 1, none⟩ = some (.bool false) := HT1.out.r.cell 1
    have r2 : w1.cell? ⟨w.heap.size + 1 + 1 + 1, 2, none⟩ = some (.string ⟨#[]⟩) := HT1.out.r.cell 2
    have r3 : w1.cell? ⟨w.heap.size + 1 + 1 + 1, 3, none⟩ = some (.int .i64 0) := HT1.out.r.cell 3
    have r4 : w1.cell? ⟨w.heap.size + 1 + 1 + 1, 4, none⟩ = some (.int .i64 0) := HT1.out.r.cell 4
    have r5 : w1.cell? ⟨w.heap.size + 1 + 1 + 1, 5, none⟩ = some (.string ⟨#[]⟩) := HT1.out.r.cell 5
    have rf := HT1.out.r.froz
    have HD := HT1.out.done
    by_cases hq : q = false
    · subst hq
      clear HQ Hq hbad HTs HSl HKs HCn HCL HMx HC HN HN1 HT1
      go_wp2
      exact bodyPost_ret (v := .tuple #[tsV ⟨0, false, noS, 0, 0, noS⟩, .int .i64 2]) (by simp [results, Tryz.results46, go_sem, r0, r1, r2, r3, r4, r5, tsV, noS]) rfl ⟨NxR.bad _ HQe.out, HD _ _ _ _ _ _⟩
    · obtain rfl : q = true := by simpa using hq
      have hM : M ≠ 2 := by
        rcases hbad with h | h
        · cases h
        · exact h
      have hd : ((M : Int) == 2) = false := by simp; omega
      clear HQ Hq hbad HTs HSl HKs HCn HCL HMx HC HN HN1 HT1 hq
      go_wp2
      exact bodyPost_ret (v := .tuple #[tsV ⟨0, false, noS, 0, 0, noS⟩, .int .i64 2]) (by simp [results, Tryz.results46, go_sem, r0, r1, r2, r3, r4, r5, tsV, noS]) rfl ⟨NxR.bad _ HQe.out, HD _ _ _ _ _ _⟩
  have hq : q = true := by
    cases q with
    | true => rfl
    | false => exact absurd (.inl rfl) hbad
  subst hq
  have hM2 : M = 2 := by
    rcases Nat.decEq M 2 with h | h
    · exact absurd (.inr h) hbad
    · exact h
  subst hM2
  clear hbad
  obtain ⟨m, r, hl, hmk, hho⟩ := hasH_get Hq.out
  have hrl : r.length = 1 := by have := HMx.out; rw [hl, List.length_cons] at this; omega
  obtain ⟨y, rfl⟩ : ∃ y, r = [y] := by
    match r, hrl with
    | [y], _ => exact ⟨y, rfl⟩
  have HQg : Hid (Q = match placeS tl (baL m.s) with
    | none => .error 5
    | some p => if hasP pl p = true then .error 6 else (match termN y with
      | none => .error 2
      | some t => .ok (atTs p t))) := by rw [Hid, ← HQ.out]; exact next_go hho hl
  have hk1 := HKs.out.next HT1.out.bel
  have hy0 : x.l[0]? = some m := by rw [hl]; rfl
  have hy1 : x.l[1]? = some y := by rw [hl]; rfl
  have hcy : cntN y ≤ 100000 := HCn.out y (by rw [hl]; simp)
  obtain ⟨b, o, va, vc, K1, A1, I1, Y1, M1, hao, H1, Hv, hw1, _⟩ := kid_get hk1 hy0
  obtain ⟨b2, o2, va2, vc2, K2, A2, I2, Y2, M2, hao2, H2, Hv2, hw2, Hk2⟩ := kid_get hk1 hy1
  subst hao
  obtain ⟨rfl, rfl⟩ : b2 = b ∧ o2 = o := by injection hao2 with h; injection h with h1 h2; exact ⟨h1.symm, h2.symm⟩
  obtain ⟨c0, c1, c2, c3, c4⟩ := hw1
  rw [Nat.zero_mul, Nat.add_zero] at c0 c1 c2 c3 c4
  have HY1 : Hid (baL m.s = Y1) := Hv.out.2.2.2.1
  rw [HY1.out] at HQg
  have HW2 : Hid (KidW w1 b2 (o2 + 1 * 5) K2 A2 I2 Y2 va2 M2 vc2) := hw2
  have HTm : Hid (∀ w', Below w1.heap.size w1 w' → Calls Tryz.prog 86 #[.agg #[.int .i64 (K2), .int .i64 (A2), .int .i64 (I2), .string (Y2), .slice va2 M2 vc2]] w' fun e w2 => PlR (termN y) e ∧ Below w'.heap.size w' w2) := by
    rw [← H2.out]; exact fun w' h => pterm_any y va2 vc2 w' Hk2.out.1 (by have h1 := cntL_len y.l; unfold cntN at hcy; omega) (Hk2.out.2.next h)
  obtain ⟨pq, HPq⟩ : ∃ pq, Hid (placeS tl Y1 = pq) := ⟨_, rfl⟩
  obtain ⟨pi, HPi⟩ : ∃ pi, Hid (placeI tl Y1 = pi) := ⟨_, rfl⟩
  have HSt : Hid (∀ w', Below w.heap.size w w' → Calls Tryz.prog 83 #[.agg #[.string tn, .slice to N tc], .string Y1] w' fun e w2 => e = .returned (.tuple #[.int .i64 pi, .bool pq.isSome]) ∧ Below w'.heap.size w' w2) := by
    intro w' h
    have := tslot_any ⟨tn, tl⟩ to tc Y1 w' HN1.out (HSl.out.next h)
    unfold tmV at this
    simp only at this
    rw [HPi.out, HPq.out, HN.out] at this
    exact this
  rw [HPq.out] at HQg
  have t0 : w1.cell? ⟨w.heap.size + 1 + 1, 0, none⟩ = some (.string tn) := HT1.out.t.cell 0
  have t1 : w1.cell? ⟨w.heap.size + 1 + 1, 1, none⟩ = some (.slice to N tc) := HT1.out.t.cell 1
  have HB1 : Hid (Below w.heap.size w w1) := HT1.out.bel
  clear HQ Hq HCn H1 Hv H2 Hv2 hw2 Hk2 hk1 hy0 hy1 hcy hl hmk hho hrl hao2
  go_wp2_with fail
  have hne1 : w.heap.size + 1 + 1 ≠ w1.heap.size := by omega
  have hne2 : w.heap.size + 1 ≠ w1.heap.size := by omega
  have hne3 : b2 ≠ w1.heap.size := by have := World.block_lt_of_cell? w1 ⟨b2, _, none⟩ c3; simp only at this; omega
  go_region_held3 (fun w' => w'.cell? ⟨w.heap.size + 1 + 1, 0, none⟩ = some (.string tn) ∧ w'.cell? ⟨w.heap.size + 1 + 1, 1, none⟩ = some (.slice to N tc) ∧ w'.cell? ⟨w.heap.size + 1, 4, none⟩ = some (.slice (some ⟨b2, o2, none⟩) 2 cap) ∧ w'.cell? ⟨b2, o2 + 3, none⟩ = some (.string Y1))
    (((try dsimp only); go_split_ands; refine ⟨?_, ?_, ?_, ?_⟩ <;> first | assumption | exact keep_cell (by assumption) (by assumption) | exact alloc_cell (by assumption) | exact (World.cell?_setCell_far _ _ _ _ (by show _ ≠ _; exact Ne.symm (by assumption))).trans (by assumption)))
    (first
      | (go_at_call 83; refine calls_in (W2 := w1) ?_ (fun hBf => ?_); (first | exact (Below.refl _ _).drew | exact Below.refl _ _ | exact (alloc_below _ _).drew | exact alloc_below _ _ | (fail "bel")); refine (HSt.out _ (next_trans HB1.out hBf)).mono ?_; rintro e w3 ⟨rfl, hb⟩; have hb3 : Below w1.heap.size w1 w3 := next_trans hBf hb; have q0 := keep_cell hb3 t0; have q1 := keep_cell hb3 t1; have q2 := keep_cell hb3 n4; have q3 := keep_cell hb3 c3; have bx : Bx w3 w1.heap.size #[.int .i64 0] := (Bx.made w1 3 #[.int .i64 0]).next (below_undrawn hb); have bx0 : w3.cell? ⟨w1.heap.size, 0, none⟩ = some (.int .i64 0) := bx.cell 0; have bxf := bx.froz)
      | (go_at_call 83; refine calls_in (W2 := w1) ?_ (fun hBf => ?_); (first | exact (Below.refl _ _).drew | exact Below.refl _ _ | exact (alloc_below _ _).drew | exact alloc_below _ _ | (fail "bel")); refine (HSt.out _ (next_trans HB1.out hBf)).mono ?_; rintro e w3 ⟨rfl, hb⟩; have hb3 : Below w1.heap.size w1 w3 := next_trans hBf hb; have q0 := keep_cell hb3 t0; have q1 := keep_cell hb3 t1; have q2 := keep_cell hb3 n4; have q3 := keep_cell hb3 c3))
  · obtain ⟨W5, HW5⟩ : ∃ W5, Hid (w3.alloc (.cells #[.int .i64 pi] 3) = W5) := ⟨_, rfl⟩
    obtain ⟨BX, HBX⟩ : ∃ BX, Hid (w3.heap.size = BX) := ⟨_, rfl⟩
    have HB15 : Hid (Below w1.heap.size w1 W5) := by rw [← HW5.out]; exact next_trans hb3 (alloc_below _ _)
    have HX5 : Hid (Bx W5 BX #[.int .i64 pi]) := Bx.made' HW5.out HBX.out
    have HT5 : Hid (NxW w W5 pt po C pc K A I Y (some ⟨b2, o2, none⟩) 2 cap tn to N tc) := HT1.out.next HB15.out
    rw [HW5.out, HBX.out]
    go_split_ands
    clear hb hBf hb3 q0 q1 q2 q3 t0 t1 n4 c0 c1 c2 c3 c4 HSt HT1 HB1 hl1 hne1 hne2 hne3 HW5 HBX
    have hl5 : w.heap.size + 1 + 1 + 1 < W5.heap.size := HT5.out.r.lt
    have HC5 : Hid (Bx W5 BX #[.int .i64 pi]) := HX5
    clear HX5
    cases pq with
    | none =>
      have r0 : W5.cell? ⟨w.heap.size + 1 + 1 + 1, 0, none⟩ = some (.int .i64 0) := HT5.out.r.cell 0
      have r1 : W5.cell? ⟨w.heap.size + 1 + 1 + 1, 1, none⟩ = some (.bool false) := HT5.out.r.cell 1
      have r2 : W5.cell? ⟨w.heap.size + 1 + 1 + 1, 2, none⟩ = some (.string ⟨#[]⟩) := HT5.out.r.cell 2
      have r3 : W5.cell? ⟨w.heap.size + 1 + 1 + 1, 3, none⟩ = some (.int .i64 0) := HT5.out.r.cell 3
      have r4 : W5.cell? ⟨w.heap.size + 1 + 1 + 1, 4, none⟩ = some (.int .i64 0) := HT5.out.r.cell 4
      have r5 : W5.cell? ⟨w.heap.size + 1 + 1 + 1, 5, none⟩ = some (.string ⟨#[]⟩) := HT5.out.r.cell 5
      have rf := HT5.out.r.froz
      have HQ2 : Hid (Q = .error 5) := HQg
      have HD := HT5.out.done
      clear HQg HTm HPq HPi HT5 HC5 HW2
      go_wp2
      exact bodyPost_ret (v := .tuple #[tsV ⟨0, false, noS, 0, 0, noS⟩, .int .i64 5]) (by simp [results, Tryz.results46, go_sem, r0, r1, r2, r3, r4, r5, tsV, noS]) rfl ⟨NxR.bad _ HQ2.out, HD _ _ _ _ _ _⟩
    | some p =>
      obtain rfl : pi = (p : Int) := by rw [← HPi.out, placeI_at HPq.out]
      have p1 : W5.cell? ⟨w.heap.size, 1, none⟩ = some (.slice po C pc) := HT5.out.p.cell 1
      obtain ⟨hp, Hhp⟩ : ∃ hp, Hid (hasP pl p = hp) := ⟨_, rfl⟩
      have HCf : Hid (Calls Tryz.prog 84 #[.slice po C pc, .func (.func 85) #[] #[.pointer (some ⟨BX, 0, none⟩)]] W5 fun e w' => e = .returned (.bool hp) ∧ Below W5.heap.size W5 w') := by
        rw [← Hhp.out]; exact hasts_any pl C po pc BX p W5 HC.out (by omega) (HTs.out.next HT5.out.bel) (HC5.out.cell 0)
      go_wp2_with fail
      refine HCf.out.mono ?_
      rintro e w6 ⟨rfl, hb6⟩
      have HT6 : Hid (NxW w w6 pt po C pc K A I Y (some ⟨b2, o2, none⟩) 2 cap tn to N tc) := HT5.out.next hb6
      have HC6 : Hid (Bx w6 BX #[.int .i64 (p : Int)]) := HC5.out.next hb6
      have HB16 : Hid (Below w1.heap.size w1 w6) := next_trans HB15.out hb6
      have hl6 : w.heap.size + 1 + 1 + 1 < w6.heap.size := HT6.out.r.lt
      clear hb6 p1 HT5 HC5 HCf HB15
      cases hp with
      | true =>
        have r0 : w6.cell? ⟨w.heap.size + 1 + 1 + 1, 0, none⟩ = some (.int .i64 0) := HT6.out.r.cell 0
        have r1 : w6.cell? ⟨w.heap.size + 1 + 1 + 1, 1, none⟩ = some (.bool false) := HT6.out.r.cell 1
        have r2 : w6.cell? ⟨w.heap.size + 1 + 1 + 1, 2, none⟩ = some (.string ⟨#[]⟩) := HT6.out.r.cell 2
        have r3 : w6.cell? ⟨w.heap.size + 1 + 1 + 1, 3, none⟩ = some (.int .i64 0) := HT6.out.r.cell 3
        have r4 : w6.cell? ⟨w.heap.size + 1 + 1 + 1, 4, none⟩ = some (.int .i64 0) := HT6.out.r.cell 4
        have r5 : w6.cell? ⟨w.heap.size + 1 + 1 + 1, 5, none⟩ = some (.string ⟨#[]⟩) := HT6.out.r.cell 5
        have rf := HT6.out.r.froz
        have HQ2 : Hid (Q = .error 6) := by rw [Hid, HQg.out]; simp only [Hhp.out, if_true]
        have HD := HT6.out.done
        clear HQg HTm HPq HPi HT6 HC6 HW2 Hhp
        go_wp2
        exact bodyPost_ret (v := .tuple #[tsV ⟨0, false, noS, 0, 0, noS⟩, .int .i64 6]) (by simp [results, Tryz.results46, go_sem, r0, r1, r2, r3, r4, r5, tsV, noS]) rfl ⟨NxR.bad _ HQ2.out, HD _ _ _ _ _ _⟩
      | false =>
        have HQ2 : Hid (Q = match termN y with
          | none => .error 2
          | some t => .ok (atTs p t)) := by rw [Hid, HQg.out]; simp only [Hhp.out, Bool.false_eq_true, if_false]
        have n4 : w6.cell? ⟨w.heap.size + 1, 4, none⟩ = some (.slice (some ⟨b2, o2, none⟩) 2 cap) := HT6.out.n.cell 4
        obtain ⟨c0, c1, c2, c3, c4⟩ := HW2.out.next HB16.out
        clear HQg HPq HPi Hhp
        go_wp2_with fail
        refine (HTm.out w6 HB16.out).mono ?_
        rintro e w7 ⟨⟨⟨tp, tnn, tv, tk, ti, ts⟩, rfl, ht⟩, hb7⟩
        obtain ⟨q, Hq⟩ : ∃ q, Hid (termN y = q) := ⟨_, rfl⟩
        rw [Hq.out] at ht HQ2 ⊢
        have HTq : Hid (∀ t', q = some t' → (⟨tp, tnn, tv, tk, ti, ts⟩ : Ts) = t') := ht
        unfold tsV
        simp only
        have HT7 : Hid (NxW w w7 pt po C pc K A I Y (some ⟨b2, o2, none⟩) 2 cap tn to N tc) := HT6.out.next hb7
        have s0 : w7.cell? ⟨BX, 0, none⟩ = some (.int .i64 (p : Int)) := (HC6.out.next hb7).cell 0
        have hlb : BX < w7.heap.size := (HC6.out.next hb7).lt
        have hl7 : w.heap.size + 1 + 1 + 1 < w7.heap.size := HT7.out.r.lt
        have r0 : w7.cell? ⟨w.heap.size + 1 + 1 + 1, 0, none⟩ = some (.int .i64 0) := HT7.out.r.cell 0
        have r1 : w7.cell? ⟨w.heap.size + 1 + 1 + 1, 1, none⟩ = some (.bool false) := HT7.out.r.cell 1
        have r2 : w7.cell? ⟨w.heap.size + 1 + 1 + 1, 2, none⟩ = some (.string ⟨#[]⟩) := HT7.out.r.cell 2
        have r3 : w7.cell? ⟨w.heap.size + 1 + 1 + 1, 3, none⟩ = some (.int .i64 0) := HT7.out.r.cell 3
        have r4 : w7.cell? ⟨w.heap.size + 1 + 1 + 1, 4, none⟩ = some (.int .i64 0) := HT7.out.r.cell 4
        have r5 : w7.cell? ⟨w.heap.size + 1 + 1 + 1, 5, none⟩ = some (.string ⟨#[]⟩) := HT7.out.r.cell 5
        have rf := HT7.out.r.froz
        have HD := bel6a (b := w.heap.size + 1 + 1 + 1) HT7.out.bel (by omega) (by omega)
        clear ht hb7 HT6 HT7 HC6 HB16 HTm HW2 Hq n4 c0 c1 c2 c3 c4
        cases q with
        | none =>
          have HQ3 : Hid (Q = .error 2) := HQ2
          clear HQ2
          go_wp2
          exact bodyPost_ret (v := .tuple #[tsV ⟨0, false, noS, 0, 0, noS⟩, .int .i64 2]) (by simp [results, Tryz.results46, go_sem, r0, r1, r2, r3, r4, r5, hl7, tsV, noS]) rfl ⟨NxR.bad _ HQ3.out, HD _ _ _ _ _ _ _⟩
        | some t' =>
          have e := HTq.out t' rfl
          subst e
          have HQ3 : Hid (Q = .ok ⟨p, tnn, tv, tk, ti, ts⟩) := HQ2
          clear HQ2 HTq
          go_wp2
          exact bodyPost_ret (v := .tuple #[tsV ⟨p, tnn, tv, tk, ti, ts⟩, .int .i64 0]) (by simp [results, Tryz.results46, go_sem, r0, r1, r2, r3, r4, r5, hl7, tsV]) rfl ⟨NxR.good HQ3.out, HD _ _ _ _ _ _ _⟩
  · obtain ⟨W5, HW5⟩ : ∃ W5, Hid (w3.setCell ⟨w1.heap.size, 0, none⟩ (.int .i64 pi) = W5) := ⟨_, rfl⟩
    obtain ⟨BX, HBX⟩ : ∃ BX, Hid (w1.heap.size = BX) := ⟨_, rfl⟩
    have HB15 : Hid (Below w1.heap.size w1 W5) := by rw [← HW5.out]; exact set_bel hb3 (Nat.le_refl _)
    have HX5 : Hid (Bx W5 BX #[.int .i64 pi]) := by rw [← HW5.out, ← HBX.out]; exact bx.set 0 _
    have HT5 : Hid (NxW w W5 pt po C pc K A I Y (some ⟨b2, o2, none⟩) 2 cap tn to N tc) := HT1.out.next HB15.out
    rw [HW5.out, HBX.out]
    go_split_ands
    clear hb hBf hb3 bx bx0 bxf q0 q1 q2 q3 t0 t1 n4 c0 c1 c2 c3 c4 HSt HT1 HB1 hl1 hne1 hne2 hne3 HW5
    have hl5 : w.heap.size + 1 + 1 + 1 < W5.heap.size := HT5.out.r.lt
    have HC5 : Hid (Bx W5 BX #[.int .i64 pi]) := HX5
    clear HX5
    cases pq with
    | none =>
      have r0 : W5.cell? ⟨w.heap.size + 1 + 1 + 1, 0, none⟩ = some (.int .i64 0) := HT5.out.r.cell 0
      have r1 : W5.cell? ⟨w.heap.size + 1 + 1 + 1, 1, none⟩ = some (.bool false) := HT5.out.r.cell 1
      have r2 : W5.cell? ⟨w.heap.size + 1 + 1 + 1, 2, none⟩ = some (.string ⟨#[]⟩) := HT5.out.r.cell 2
      have r3 : W5.cell? ⟨w.heap.size + 1 + 1 + 1, 3, none⟩ = some (.int .i64 0) := HT5.out.r.cell 3
      have r4 : W5.cell? ⟨w.heap.size + 1 + 1 + 1, 4, none⟩ = some (.int .i64 0) := HT5.out.r.cell 4
      have r5 : W5.cell? ⟨w.heap.size + 1 + 1 + 1, 5, none⟩ = some (.string ⟨#[]⟩) := HT5.out.r.cell 5
      have rf := HT5.out.r.froz
      have HQ2 : Hid (Q = .error 5) := HQg
      have HD := HT5.out.done
      clear HQg HTm HPq HPi HT5 HC5 HW2
      go_wp2
      exact bodyPost_ret (v := .tuple #[tsV ⟨0, false, noS, 0, 0, noS⟩, .int .i64 5]) (by simp [results, Tryz.results46, go_sem, r0, r1, r2, r3, r4, r5, tsV, noS]) rfl ⟨NxR.bad _ HQ2.out, HD _ _ _ _ _ _⟩
    | some p =>
      obtain rfl : pi = (p : Int) := by rw [← HPi.out, placeI_at HPq.out]
      have p1 : W5.cell? ⟨w.heap.size, 1, none⟩ = some (.slice po C pc) := HT5.out.p.cell 1
      obtain ⟨hp, Hhp⟩ : ∃ hp, Hid (hasP pl p = hp) := ⟨_, rfl⟩
      have HCf : Hid (Calls Tryz.prog 84 #[.slice po C pc, .func (.func 85) #[] #[.pointer (some ⟨BX, 0, none⟩)]] W5 fun e w' => e = .returned (.bool hp) ∧ Below W5.heap.size W5 w') := by
        rw [← Hhp.out]; exact hasts_any pl C po pc BX p W5 HC.out (by omega) (HTs.out.next HT5.out.bel) (HC5.out.cell 0)
      go_wp2_with fail
      refine HCf.out.mono ?_
      rintro e w6 ⟨rfl, hb6⟩
      have HT6 : Hid (NxW w w6 pt po C pc K A I Y (some ⟨b2, o2, none⟩) 2 cap tn to N tc) := HT5.out.next hb6
      have HC6 : Hid (Bx w6 BX #[.int .i64 (p : Int)]) := HC5.out.next hb6
      have HB16 : Hid (Below w1.heap.size w1 w6) := next_trans HB15.out hb6
      have hl6 : w.heap.size + 1 + 1 + 1 < w6.heap.size := HT6.out.r.lt
      clear hb6 p1 HT5 HC5 HCf HB15
      cases hp with
      | true =>
        have r0 : w6.cell? ⟨w.heap.size + 1 + 1 + 1, 0, none⟩ = some (.int .i64 0) := HT6.out.r.cell 0
        have r1 : w6.cell? ⟨w.heap.size + 1 + 1 + 1, 1, none⟩ = some (.bool false) := HT6.out.r.cell 1
        have r2 : w6.cell? ⟨w.heap.size + 1 + 1 + 1, 2, none⟩ = some (.string ⟨#[]⟩) := HT6.out.r.cell 2
        have r3 : w6.cell? ⟨w.heap.size + 1 + 1 + 1, 3, none⟩ = some (.int .i64 0) := HT6.out.r.cell 3
        have r4 : w6.cell? ⟨w.heap.size + 1 + 1 + 1, 4, none⟩ = some (.int .i64 0) := HT6.out.r.cell 4
        have r5 : w6.cell? ⟨w.heap.size + 1 + 1 + 1, 5, none⟩ = some (.string ⟨#[]⟩) := HT6.out.r.cell 5
        have rf := HT6.out.r.froz
        have HQ2 : Hid (Q = .error 6) := by rw [Hid, HQg.out]; simp only [Hhp.out, if_true]
        have HD := HT6.out.done
        clear HQg HTm HPq HPi HT6 HC6 HW2 Hhp
        go_wp2
        exact bodyPost_ret (v := .tuple #[tsV ⟨0, false, noS, 0, 0, noS⟩, .int .i64 6]) (by simp [results, Tryz.results46, go_sem, r0, r1, r2, r3, r4, r5, tsV, noS]) rfl ⟨NxR.bad _ HQ2.out, HD _ _ _ _ _ _⟩
      | false =>
        have HQ2 : Hid (Q = match termN y with
          | none => .error 2
          | some t => .ok (atTs p t)) := by rw [Hid, HQg.out]; simp only [Hhp.out, Bool.false_eq_true, if_false]
        have n4 : w6.cell? ⟨w.heap.size + 1, 4, none⟩ = some (.slice (some ⟨b2, o2, none⟩) 2 cap) := HT6.out.n.cell 4
        obtain ⟨c0, c1, c2, c3, c4⟩ := HW2.out.next HB16.out
        clear HQg HPq HPi Hhp
        go_wp2_with fail
        refine (HTm.out w6 HB16.out).mono ?_
        rintro e w7 ⟨⟨⟨tp, tnn, tv, tk, ti, ts⟩, rfl, ht⟩, hb7⟩
        obtain ⟨q, Hq⟩ : ∃ q, Hid (termN y = q) := ⟨_, rfl⟩
        rw [Hq.out] at ht HQ2 ⊢
        have HTq : Hid (∀ t', q = some t' → (⟨tp, tnn, tv, tk, ti, ts⟩ : Ts) = t') := ht
        unfold tsV
        simp only
        have HT7 : Hid (NxW w w7 pt po C pc K A I Y (some ⟨b2, o2, none⟩) 2 cap tn to N tc) := HT6.out.next hb7
        have s0 : w7.cell? ⟨BX, 0, none⟩ = some (.int .i64 (p : Int)) := (HC6.out.next hb7).cell 0
        have hlb : BX < w7.heap.size := (HC6.out.next hb7).lt
        have hl7 : w.heap.size + 1 + 1 + 1 < w7.heap.size := HT7.out.r.lt
        have r0 : w7.cell? ⟨w.heap.size + 1 + 1 + 1, 0, none⟩ = some (.int .i64 0) := HT7.out.r.cell 0
        have r1 : w7.cell? ⟨w.heap.size + 1 + 1 + 1, 1, none⟩ = some (.bool false) := HT7.out.r.cell 1
        have r2 : w7.cell? ⟨w.heap.size + 1 + 1 + 1, 2, none⟩ = some (.string ⟨#[]⟩) := HT7.out.r.cell 2
        have r3 : w7.cell? ⟨w.heap.size + 1 + 1 + 1, 3, none⟩ = some (.int .i64 0) := HT7.out.r.cell 3
        have r4 : w7.cell? ⟨w.heap.size + 1 + 1 + 1, 4, none⟩ = some (.int .i64 0) := HT7.out.r.cell 4
        have r5 : w7.cell? ⟨w.heap.size + 1 + 1 + 1, 5, none⟩ = some (.string ⟨#[]⟩) := HT7.out.r.cell 5
        have rf := HT7.out.r.froz
        have HD := bel6a (b := w.heap.size + 1 + 1 + 1) HT7.out.bel (by omega) (by omega)
        clear ht hb7 HT6 HT7 HC6 HB16 HTm HW2 Hq n4 c0 c1 c2 c3 c4
        cases q with
        | none =>
          have HQ3 : Hid (Q = .error 2) := HQ2
          clear HQ2
          go_wp2
          exact bodyPost_ret (v := .tuple #[tsV ⟨0, false, noS, 0, 0, noS⟩, .int .i64 2]) (by simp [results, Tryz.results46, go_sem, r0, r1, r2, r3, r4, r5, hl7, tsV, noS]) rfl ⟨NxR.bad _ HQ3.out, HD _ _ _ _ _ _ _⟩
        | some t' =>
          have e := HTq.out t' rfl
          subst e
          have HQ3 : Hid (Q = .ok ⟨p, tnn, tv, tk, ti, ts⟩) := HQ2
          clear HQ2 HTq
          go_wp2
          exact bodyPost_ret (v := .tuple #[tsV ⟨p, tnn, tv, tk, ti, ts⟩, .int .i64 0]) (by simp [results, Tryz.results46, go_sem, r0, r1, r2, r3, r4, r5, hl7, tsV]) rfl ⟨NxR.good HQ3.out, HD _ _ _ _ _ _ _⟩
end Go.Proofs.YtnhbjhdkpbhioaaGreatDoor
namespace Go.Proofs.YtnhbjhdkpbhioaaGreatDoor
open Go.RowKit
set_option maxHeartbeats 4000000 in
set_option maxRecDepth 8000 in
theorem rterm0_any (x : Nd) (ao : Option Addr) (cap : Nat) (w : World) (h8 : x.k ≠ 8) (h6 : x.k = 6 → x.s ≠ []) :
    Calls Tryz.prog 50 #[ndV x ao cap] w fun e w' => PlR (plainN x) e ∧ Below w.heap.size w w' := by
  obtain ⟨Q, HQ⟩ : ∃ Q, Hid (plainN x = Q) := ⟨_, rfl⟩
  obtain ⟨V, HV⟩ : ∃ V, Hid (valN x = V) := ⟨_, rfl⟩
  have HVal : Hid (∀ w, Calls Tryz.prog 87 #[ndV x ao cap] w fun e w' => e = .returned (.tuple #[.agg #[.int .i64 ((valN x).1), .int .i64 ((valN x).2.1), .string (baL (valN x).2.2.1)], .bool (valN x).2.2.2]) ∧ Below w.heap.size w w') := fun w => rvalue_any5 x ao cap w
  obtain ⟨K, A, I, Y, M, H, Hx⟩ := nd_open x ao cap
  rw [H.out, HV.out] at HVal
  rw [H.out, HQ.out]
  obtain ⟨vk, vi, vl, vb⟩ := V
  simp only at HVal
  obtain ⟨S, HS⟩ : ∃ S, Hid (baL vl = S) := ⟨_, rfl⟩
  rw [HS.out] at HVal
  rw [Hx.out.1] at h8 h6
  obtain ⟨W, HWe⟩ : ∃ W, Hid ((w.alloc (.cells #[.int .i64 K, .int .i64 A, .int .i64 I, .string Y, .slice ao M cap] 46)).alloc (.cells #[.int .i64 0, .bool false, .string ⟨#[]⟩, .int .i64 0, .int .i64 0, .string ⟨#[]⟩] 125) = W) := ⟨_, rfl⟩
  have HB : Hid (Below w.heap.size w W) := by rw [← HWe.out]; exact next_trans (alloc_below _ _) (alloc_below _ _)
  have HX : Hid (Bx W w.heap.size #[.int .i64 K, .int .i64 A, .int .i64 I, .string Y, .slice ao M cap]) := by rw [← HWe.out]; exact (Bx.made _ _ _).alloc _
  have HR : Hid (Bx W (w.heap.size + 1) #[.int .i64 0, .bool false, .string ⟨#[]⟩, .int .i64 0, .int .i64 0, .string ⟨#[]⟩]) := Bx.made' HWe.out (by simp)
  have x0 : W.cell? ⟨w.heap.size, 0, none⟩ = some (.int .i64 K) := HX.out.cell 0
  have x1 : W.cell? ⟨w.heap.size, 1, none⟩ = some (.int .i64 A) := HX.out.cell 1
  have x2 : W.cell? ⟨w.heap.size, 2, none⟩ = some (.int .i64 I) := HX.out.cell 2
  have x3 : W.cell? ⟨w.heap.size, 3, none⟩ = some (.string Y) := HX.out.cell 3
  have x4 : W.cell? ⟨w.heap.size, 4, none⟩ = some (.slice ao M cap) := HX.out.cell 4
  have hl : w.heap.size + 1 < W.heap.size := HR.out.lt
  have hd8 : (K == 8) = false := by simpa using h8
  by_cases hk : K = 6
  · have r0 : W.cell? ⟨w.heap.size + 1, 0, none⟩ = some (.int .i64 0) := HR.out.cell 0
    have r1 : W.cell? ⟨w.heap.size + 1, 1, none⟩ = some (.bool false) := HR.out.cell 1
    have r2 : W.cell? ⟨w.heap.size + 1, 2, none⟩ = some (.string ⟨#[]⟩) := HR.out.cell 2
    have r3 : W.cell? ⟨w.heap.size + 1, 3, none⟩ = some (.int .i64 0) := HR.out.cell 3
    have r4 : W.cell? ⟨w.heap.size + 1, 4, none⟩ = some (.int .i64 0) := HR.out.cell 4
    have r5 : W.cell? ⟨w.heap.size + 1, 5, none⟩ = some (.string ⟨#[]⟩) := HR.out.cell 5
    have rf := HR.out.froz
    have hxs := Hx.out.2.2.2.1
    have hne := h6 hk
    have HQn : Hid (Q = some ⟨0, false, Y, 0, 0, noS⟩) := by
      rw [Hid, ← HQ.out]; unfold plainN
      rw [if_pos (by rw [Hx.out.1]; exact hk), if_neg hne, hxs]
    subst hk
    clear Hx H HVal hxs HX HR HV HQ hne h6 h8 HWe HB x0 x1 x2 x3 x4 hl r0 r1 r2 r3 r4 r5 rf
    go_enter Tryz.func50, Tryz.ntmps50
    go_wp2
    exact bodyPost_ret (v := .tuple #[tsV ⟨0, false, Y, 0, 0, noS⟩, .bool true]) (by simp [results, Tryz.results50, go_sem, tsV, noS]) rfl ⟨PlR.yes HQn.out, next_trans (alloc_below _ _) (alloc_below _ _)⟩
  · have hd : (K == 6) = false := by simpa using hk
    have HQn : Hid (Q = if vb = true then some ⟨0, false, noS, vk, vi, S⟩ else none) := by
      rw [Hid, ← HQ.out]; unfold plainN
      rw [if_neg (by rw [Hx.out.1]; exact hk), HV.out, ← HS.out]
    clear Hx H HX HV HQ hk h6 h8
    go_enter Tryz.func50, Tryz.ntmps50
    go_wp2_with fail
    rw [HWe.out]
    clear HWe
    refine (HVal.out W).mono ?_
    rintro e w1 ⟨rfl, hb1⟩
    have HB1 : Hid (Below w.heap.size w w1) := next_trans HB.out hb1
    have HR1 : Hid (Bx w1 (w.heap.size + 1) #[.int .i64 0, .bool false, .string ⟨#[]⟩, .int .i64 0, .int .i64 0, .string ⟨#[]⟩]) := HR.out.next hb1
    have r0 : w1.cell? ⟨w.heap.size + 1, 0, none⟩ = some (.int .i64 0) := HR1.out.cell 0
    have r1 : w1.cell? ⟨w.heap.size + 1, 1, none⟩ = some (.bool false) := HR1.out.cell 1
    have r2 : w1.cell? ⟨w.heap.size + 1, 2, none⟩ = some (.string ⟨#[]⟩) := HR1.out.cell 2
    have r3 : w1.cell? ⟨w.heap.size + 1, 3, none⟩ = some (.int .i64 0) := HR1.out.cell 3
    have r4 : w1.cell? ⟨w.heap.size + 1, 4, none⟩ = some (.int .i64 0) := HR1.out.cell 4
    have r5 : w1.cell? ⟨w.heap.size + 1, 5, none⟩ = some (.string ⟨#[]⟩) := HR1.out.cell 5
    have rf := HR1.out.froz
    have hl1 : w.heap.size + 1 < w1.heap.size := HR1.out.lt
    have HBe := bel6a (b := w.heap.size + 1) HB1.out (by omega) (by omega)
    clear hb1 x0 x1 x2 x3 x4 HR HB hl HVal
    cases vb with
    | false =>
      have HQ2 : Hid (Q = none) := by rw [Hid, HQn.out]; rfl
      clear HQn
      go_wp2
      exact bodyPost_ret (v := .tuple #[tsV ⟨0, false, noS, vk, vi, S⟩, .bool false]) (by simp [results, Tryz.results50, go_sem, r0, r1, r2, r3, r4, r5, hl1, tsV, noS]) rfl ⟨PlR.no _ HQ2.out, HBe _ _ _ _ _ _ _⟩
    | true =>
      have HQ2 : Hid (Q = some ⟨0, false, noS, vk, vi, S⟩) := by rw [Hid, HQn.out]; rfl
      clear HQn
      go_wp2
      exact bodyPost_ret (v := .tuple #[tsV ⟨0, false, noS, vk, vi, S⟩, .bool true]) (by simp [results, Tryz.results50, go_sem, r0, r1, r2, r3, r4, r5, hl1, tsV, noS]) rfl ⟨PlR.yes HQ2.out, HBe _ _ _ _ _ _ _⟩
set_option maxHeartbeats 4000000 in
set_option maxRecDepth 8000 in
theorem rterm_any (x : Nd) (ao : Option Addr) (cap : Nat) (w : World) (hwf : WfN x) (hc : x.l.length ≤ cap) (hk : IsNds w anyB ao x.l) :
    Calls Tryz.prog 50 #[ndV x ao cap] w fun e w' => PlR (termN x) e ∧ Below w.heap.size w w' := by
  have hwu : ∀ {k i : Int} {s : List UInt8}, WfU k i s → k ≠ 8 ∧ (k = 6 → s ≠ []) := by
    intro k i s h
    obtain ⟨hT, hm⟩ := h
    refine ⟨fun e => by rw [e] at hm; exact absurd hm (by decide), fun e he => ?_⟩
    subst e he
    rcases hT with h | h | h | h | h
    · exact absurd h.1 (by decide)
    · exact absurd h.1 (by decide)
    · exact absurd h.1 (by decide)
    · rcases h.1 with h | h | h <;> exact absurd h (by decide)
    · exact absurd (good_len h.2.2).1 (by decide)
  by_cases h8 : x.k = 8
  case neg =>
    have e : termN x = plainN x := by unfold termN; rw [if_neg h8]
    rw [e]
    refine rterm0_any x ao cap w h8 (fun h => ?_)
    obtain ⟨k, a, i, s, l⟩ := x
    rw [WfN_mk] at hwf
    simp only at h h8 ⊢
    rcases hwf with ⟨h1, _⟩ | ⟨h1, _⟩ | ⟨h1, _⟩
    · rw [h] at h1; cases h1
    · exact absurd h1 h8
    · exact (hwu h1).2 h
  obtain ⟨y, hxl, hy8, hy6⟩ : ∃ y, x.l = [y] ∧ y.k ≠ 8 ∧ (y.k = 6 → y.s ≠ []) := by
    obtain ⟨k, a, i, s, l⟩ := x
    rw [WfN_mk] at hwf
    simp only at h8
    rcases hwf with ⟨h1, _⟩ | ⟨_, _, _, k', a', i', s', h1, h2⟩ | ⟨h1, _⟩
    · rw [h8] at h1; cases h1
    · exact ⟨_, h1, (hwu h2).1, (hwu h2).2⟩
    · exact absurd h8 (hwu h1).1
  obtain ⟨Q, HQ⟩ : ∃ Q, Hid (termN x = Q) := ⟨_, rfl⟩
  have HQm : Hid (Q = (plainN y).map notTs) := by rw [Hid, ← HQ.out]; exact term_not h8 (by rw [hxl]; rfl) (by rw [hxl]; rfl)
  have hy : x.l[0]? = some y := by rw [hxl]; rfl
  have hM : x.l.length = 1 := by rw [hxl]; rfl
  have HI : Hid (IsNds w anyB ao x.l) := hk
  obtain ⟨K, A, I, Y, M, H, Hx⟩ := nd_open x ao cap
  rw [H.out, HQ.out]
  obtain rfl : M = 1 := by rw [← Hx.out.2.2.2.2]; exact hM
  obtain rfl : K = 8 := by rw [← Hx.out.1]; exact h8
  obtain ⟨b, o, va, vc, K1, A1, I1, Y1, M1, rfl, H1, Hv, hw1, Hk1⟩ := kid_get HI.out hy
  have HP1 : Hid (∀ w, Calls Tryz.prog 50 #[.agg #[.int .i64 (K1), .int .i64 (A1), .int .i64 (I1), .string (Y1), .slice va M1 vc]] w fun e w' => PlR (plainN y) e ∧ Below w.heap.size w w') := by rw [← H1.out]; exact fun w => rterm0_any y va vc w hy8 hy6
  obtain ⟨c0, c1, c2, c3, c4⟩ := hw1
  rw [Nat.zero_mul, Nat.add_zero] at c0 c1 c2 c3 c4
  have hbl := World.block_lt_of_cell? w _ c0
  simp only at hbl
  obtain ⟨W, HWe⟩ : ∃ W, Hid ((w.alloc (.cells #[.int .i64 8, .int .i64 A, .int .i64 I, .string Y, .slice (some ⟨b, o, none⟩) 1 cap] 46)).alloc (.cells #[.int .i64 0, .bool false, .string ⟨#[]⟩, .int .i64 0, .int .i64 0, .string ⟨#[]⟩] 125) = W) := ⟨_, rfl⟩
  have HB : Hid (Below w.heap.size w W) := by rw [← HWe.out]; exact next_trans (alloc_below _ _) (alloc_below _ _)
  have HR : Hid (Bx W (w.heap.size + 1) #[.int .i64 0, .bool false, .string ⟨#[]⟩, .int .i64 0, .int .i64 0, .string ⟨#[]⟩]) := Bx.made' HWe.out (by simp)
  clear Hx H HQ HI H1 Hv Hk1 hy hxl hy8 hy6 h8 hwf hwu hM hk hc
  go_enter Tryz.func50, Tryz.ntmps50
  go_wp2_with fail
  rw [HWe.out]
  clear HWe
  refine (HP1.out W).mono ?_
  rintro e w1 ⟨⟨⟨tp, tn, tv, tk, ti, ts⟩, rfl, ht⟩, hb1⟩
  obtain ⟨q, Hq⟩ : ∃ q, Hid (plainN y = q) := ⟨_, rfl⟩
  rw [Hq.out] at ht HQm ⊢
  have HT : Hid (∀ t', q = some t' → (⟨tp, tn, tv, tk, ti, ts⟩ : Ts) = t') := ht
  unfold tsV
  simp only
  have HB1 : Hid (Below w.heap.size w w1) := next_trans HB.out hb1
  have HR1 : Hid (Bx w1 (w.heap.size + 1) #[.int .i64 0, .bool false, .string ⟨#[]⟩, .int .i64 0, .int .i64 0, .string ⟨#[]⟩]) := HR.out.next hb1
  have r0 : w1.cell? ⟨w.heap.size + 1, 0, none⟩ = some (.int .i64 0) := HR1.out.cell 0
  have r1 : w1.cell? ⟨w.heap.size + 1, 1, none⟩ = some (.bool false) := HR1.out.cell 1
  have r2 : w1.cell? ⟨w.heap.size + 1, 2, none⟩ = some (.string ⟨#[]⟩) := HR1.out.cell 2
  have r3 : w1.cell? ⟨w.heap.size + 1, 3, none⟩ = some (.int .i64 0) := HR1.out.cell 3
  have r4 : w1.cell? ⟨w.heap.size + 1, 4, none⟩ = some (.int .i64 0) := HR1.out.cell 4
  have r5 : w1.cell? ⟨w.heap.size + 1, 5, none⟩ = some (.string ⟨#[]⟩) := HR1.out.cell 5
  have rf := HR1.out.froz
  have hl1 : w.heap.size + 1 < w1.heap.size := HR1.out.lt
  have HBe := bel6a (b := w.heap.size + 1) HB1.out (by omega) (by omega)
  clear hb1 c0 c1 c2 c3 c4 HR HB hbl HP1 ht HR1 Hq
  cases q with
  | none =>
    go_wp2
    exact bodyPost_ret (v := .tuple #[tsV ⟨tp, true, tv, tk, ti, ts⟩, .bool false]) (by simp [results, Tryz.results50, go_sem, r0, r1, r2, r3, r4, r5, hl1, tsV]) rfl ⟨PlR.no _ HQm.out, HBe _ _ _ _ _ _ _⟩
  | some t' =>
    have e := HT.out t' rfl
    subst e
    go_wp2
    exact bodyPost_ret (v := .tuple #[tsV ⟨tp, true, tv, tk, ti, ts⟩, .bool true]) (by simp [results, Tryz.results50, go_sem, r0, r1, r2, r3, r4, r5, hl1, tsV]) rfl ⟨PlR.yes HQm.out, HBe _ _ _ _ _ _ _⟩
end Go.Proofs.YtnhbjhdkpbhioaaGreatDoor
